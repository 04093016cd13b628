import PyProof.Rows.All
import Wide.All
import OpenK.AllK
import Wide.FinOn
import Lean
import PyProof.EqAt
import PyProof.EqKinds
import PyProof.TupleCall
import Open.Row
import PySem.SetOps
import PyProof.SetRoads
import PyProof.Rows.SetFrom
import PyProof.FactsAll.subtypes_4
import PyProof.WalksMore
import OpenK.KOwn
import PyProof.NeData
import PyProof.ReprRoads
import PyProof.WalksEnum
import PyProof.EnumMake
import PyProof.Rows.EnumRows
import KE.KTryMore
import KE.KIntText
import KE.KDictList
import PyProof.ConsumeS
import PyProof.ListRange
import PyProof.ListMulRoad
import PyProof.CompUse
import PyProof.CompFree
import PyProof.DictUpdate
import PyProof.Rows.TupDisplay
import PyProof.DictWalks
import PyProof.TupleOfGen
import PyProof.ZipIter
import PySem.Challenge.RW_quarterfold_k36_deeds_refused
set_option Elab.async false
set_option linter.all false
set_option maxRecDepth 100000
set_option maxHeartbeats 8000000
open PySem renaming Value→aa,Addr→ae,Shared→af,wpAny→ag,Program→ah,FuncData→ai,model→aj,World→ak,Heap→ao,Str→aq,Expr→ar,Around→au,SetTable→av,Obj→aw,Scope→ax,Stmt→ay,Pos→aA
local macro_rules|`('a')=>`(by lia)|`('b')=>`(by simp)|`('c')=>`(by decide)|`('d')=>`(by rfl)
variable{P prog:ah}{w:ak}{A:au}{E:aa->af->Prop}{s:af}{K:PySem.W.Frag}{base:ao}
def Za:=@PySem.wpAny_bind
def Zb:=@PySem.Heap.get?_push_of_some
def Zc:=@PySem.wpAny_pure
def Zd:=@List.getElem?_eq_getElem
def Ze:=@List.length_map
def Zf:=@List.getElem?_map
def Zg:=@Nat.le_refl
def Zh:=@PySem.Heap.get?_push_size
def Zi:=@if_neg
def Zj:=@PySem.W.mg_of
def Zk:=@List.length_append
def Zl:=@PySem.Heap.lt_size
def Zm:=@List.getElem?_append_left
def Zn:=@List.mem_cons_of_mem
def Zo:=@List.mem_of_getElem?
def Zp:=@Option.map_eq_some_iff
def Zq:=@decide_eq_true
def Zr:=@if_pos
def Zs:=@List.getElem?_append_right
def Zt:=@List.getD_eq_getElem?_getD
def Zu:=@Option.some.inj
def Zv:=@Bool.false_eq_true
def Zw:=@List.mem_cons_self
def Zx:=@List.size_toArray
def Zy:=@decide_eq_false
def Zz:=@Nat.ne_of_lt
def ZA:=@PyProof.Rows.boot_isinstance
def ZB:=@List.mem_cons
def ZC:=@Array.getElem?_eq_some_iff
def ZD:=@List.length_cons
def ZE:=@PyProof.Rows.boot_tuple
def ZF:=@PySem.boot_len
def ZG:=@Bool.false_ne_true
def ZH:=@PyProof.Rows.slot_tuple_getitem
def ZI:=@of_decide_eq_true
def ZJ:=@Nat.lt_of_lt_of_le
def ZK:=@PySem.wpAny_holding
def ZL:=@List.map_cons
def ZM:=@List.mem_iff_getElem
def ZN:=@Nat.le_trans
def ZO:=@PySem.wpAny_newObj_type
def ZP:=@PySem.wpAny_field
def ZQ:=@PySem.Heap.get?_update_other
def ZR:=@Array.getElem?_eq_getElem
def ZS:=@PySem.wpAny_callSpecial?_slot
def ZT:=@List.length_take
def ZU:=@Nat.zero_le
def ZV:=@List.mem_map
def ZW:=@List.map_append
def ZX:=@List.mem_range
def ZY:=@List.filterMap_cons
def ZZ:=@PyProof.Rows.F.plain_set_update_loop
def Z0:=@if_false
def Z1:=@List.mem_append_right
def Z2:=@Ne.symm
def Z3:=@List.length_drop
def Z4:=@PySem.wpAny_setState_of
def Z5:=@List.length_range
def Z6:=@List.append_assoc
def Z7:=@PySem.wpAny_call_entry
def Z8:=@List.mem_append
def Z9:=@List.foldl_cons
def Yb:=@PySem.wpAny_setField_rec
def Yc:=@List.getElem?_eq_none
def Ye:=@PySem.F.plainAttrs_list
def Yg:=@Array.length_toList
def Yh:=@PySem.Heap.SameBut.update
def Yi:=@Nat.not_lt_zero
def Yj:=@PySem.PassesOwn.never
def Yk:=@List.nodup_append
def Ym:=@PySem.F.slot_list_append
def Yn:=@PySem.F.type_list_append
def Yo:=@congrArg
def Yp:=@PySem.mem_of_lookup
def Yq:=@PySem.Heap.size_push
def Yr:=@Array.size_map
def Ys:=@Nat.le_of_lt
def Yt:=@if_true
def Yu:=@PyProof.Rows.boot_list
def Yv:=@PySem.PyData.int.inj
def Yw:=@Nat.lt_succ_self
def Yx:=@List.map_congr_left
def Yy:=@Nat.lt_succ_of_lt
def Yz:=@PySem.wpAny_mono
def YA:=@PySem.W.kia_one
def YB:=@Bool.and_eq_true
def YC:=@List.lookup_cons
def YD:=@beq_eq_false_iff_ne
def YE:=@PyProof.Rows.F.entry_set_update_loop
def YF:=@List.length_reverse
def YG:=@PySem.Heap.get?_update_self
def YH:=@Nat.lt_irrefl
def YI:=@List.take_append_getElem
def YJ:=@List.nodup_cons
def YK:=@PySem.wpAny_ite_split
def YL:=@PySem.F.slot_dict_keyiterator_next
def YM:=@PySem.wpAny_pyIter_tuple
def YN:=@PySem.Obj.data_mapFields
def YO:=@List.mem_append_left
def YQ:=@Nat.le_add_right
def YR:=@PySem.PyData.tuple.inj
def YS:=@List.idxOf_lt_length_of_mem
def YT:=@PySem.wpAny_truthy_bool
def YU:=@Int.toNat_natCast
def YV:=@PySem.sizeLine_eq
def YW:=@PyProof.Rows.boot_int
def YX:=@Nat.lt_of_le_of_lt
def YY:=@List.getElem_mem
def YZ:=@Nat.pow_succ
def Y0:=@forall_congr'
def Y1:=@PySem.wpAny_typeNameOfWhole_keyiter
def Y2:=@Bool.eq_iff_iff
def Y3:=@List.forIn_cons
def Y4:=@Array.getElem?_setIfInBounds
def Y5:=@List.getElem?_range
def Y6:=@PyProof.Rows.callWith_type1
def Y7:=@PySem.codeAny_mono
def Y8:=@List.all_eq_true
def Y9:=@List.take_length
def Xa:=@PySem.wpAny_Call_Name_kw
def Xb:=@PySem.wpAny_seqItems
def Xc:=@PySem.F.slot_tuple_iterator_next
def Xd:=@Array.getElem?_map
def Xe:=@List.take_append_drop
def Xf:=@Array.getElem?_toList
def Xg:=@PySem.wpAny_passesOwn
def Xh:=@PySem.codeAny_builtin
def Xi:=@Nat.ne_of_gt
def Xj:=@PySem.wpAny_pyIter_list
def Xk:=@Nat.le_of_lt_succ
def Xl:=@PySem.lookup_relabel_local
def Xm:=@List.map_map
def Xn:=@Nat.zero_add
def Xo:=@Option.isSome_iff_exists
def Xp:=@PySem.wpAny_typeNameOf_keyiter
def Xq:=@List.length_pos_iff
def Xr:=@List.replicate_succ
def Xs:=@List.map_eq_nil_iff
def Xu:=@List.getElem?_replicate
def Xv:=@List.not_mem_nil
def Xw:=@PySem.wpAny_setField
def Xx:=@List.getElem?_set_self
def Xy:=@PySem.tupleKind_room_in1
def Xz:=@Int.emod_lt_of_pos
def XA:=@List.map_inj_right
def XB:=@Array.getElem?_eq_none
def XC:=@List.append_nil
def XD:=@List.find?_cons
def XE:=@List.range_succ
def XG:=@List.cons.injEq
def XH:=@PySem.Paired.length
def XI:=@Nat.mul_assoc
def XJ:=@PySem.wpAny_attempt
def XM:=@List.length_replicate
def XN:=@PySem.wpAny_isSame_ref_self
def XO:=@PySem.Obj.isFreed_of_fields
def XQ:=@PySem.F.slot_enumerate_next
def XR:=@PyProof.Rows.boot_all
def XS:=@List.getElem?_toArray
def XU:=@List.reverse_cons
def XV:=@List.ext_getElem?
def XW:=@PySem.wpAny_dictEntries
def XX:=@PySem.wpAny_rule
def XY:=@beq_iff_eq
def XZ:=@List.nodup_nil
def X9:=@Bool.and_false
def Wa:=@PySem.Around.under_plainId
def Wb:=@PySem.codeAny_call_builtin
def Wc:=@Bool.and_eq_true_iff
def Wd:=@List.any_eq_true
def We:=@PyProof.Rows.entry_tuple_getitem
def Wf:=@PySem.F.args_tuple_add_2
def Wg:=@Array.size_setIfInBounds
def Wh:=@Bool.not_true
def Wi:=@PySem.AutoSeq1.wpAny_loadPart'
def Wj:=@PySem.wpAny_execs_nil
def Wk:=@Nat.two_pow_pos
def Wl:=@PySem.F.slot_zip_next
def Wm:=@PySem.W.of_hideAll
def Wn:=@List.mem_filterMap
def Wo:=@PySem.W.callWith_K
def Wp:=@PyProof.Rows.args_tuple_getitem
def Wq:=@PySem.wpAny_eqBool_tuple
def Wr:=@Nat.add_sub_cancel
def Ws:=@List.getElem?_drop
def Wt:=@PySem.F.entry_tuple_add
def Wu:=@List.any_eq_false
def Wv:=@Nat.le_of_eq
def Ww:=@PySem.W.cellsFrom_some
def Wx:=@PySem.F.slot_tuple_add
def Wy:=@PySem.wpAny_sequenceKey
def Wz:=@PySem.wpAny_typeOf
def WA:=@Nat.lt_trans
def WB:=@Nat.succ_pos
def WC:=@Bool.not_false
def WD:=@PySem.wpAny_storeSet_of
def WE:=@List.forIn_nil
def WF:=@List.foldl_append
def WG:=@List.take_of_length_le
def WH:=@PyProof.Rows.boot_max
def WI:=@PySem.wpAny_isOneOf_keyiter
def WJ:=@Nat.le_of_not_lt
def WK:=@PySem.wpAny_standAt
def WL:=@List.getElem?_set_ne
def WM:=@Nat.mul_add
def WN:=@Array.mem_extract_iff_getElem
def WO:=@List.drop_append_of_le_length
def WP:=@List.idxOf_eq_length
def WQ:=@List.mem_of_mem_take
def WR:=@List.getElem?_zipIdx
def WS:=@List.mem_filter
def WT:=@List.of_mem_zip
def WU:=@Option.map_some
def WV:=@and_congr_right
def WW:=@PySem.F.slot_dict_setdefault
def WX:=@Int.emod_nonneg
def WY:=@PySem.W.hideAll_get
def WZ:=@PySem.W.plainGet_of
def W0:=@Array.getElem?_push
def W1:=@List.IsPrefix.trans
def W2:=@Nat.sub_self
def W3:=@Nat.mod_lt
def W4:=@Array.toList_setIfInBounds
def W5:=@Array.foldl_toList
def W6:=@PySem.Code.quiet_builtin
def W7:=@List.prefix_append
def W8:=@Int.natCast_nonneg
def W9:=@PySem.wpAny_fieldsOf
def Va:=@List.getElem?_take
def Vb:=@List.pairwise_iff_getElem
def Vc:=@Sum.inl.inj
def Vd:=@Option.isSome_map
def Ve:=@Array.getElem_mem
def Vf:=@PySem.Obj.cls_mapFields
def Vg:=@Bool.eq_false_iff
def Vh:=@List.idxOf_append
def Vi:=@Nat.lt_trichotomy
def Vj:=@Nat.pow_pos
def Vk:=@Bool.and_self
def Vl:=@List.getElem_inj
def Vm:=@beq_self_eq_true
def Vn:=@List.zipIdx_cons
def Vo:=@PySem.wpAny_call
def Vp:=@List.map_nil
def Vq:=@Nat.mul_comm
def Vr:=@bind_congr
def Vs:=@Nat.add_comm
def Vt:=@List.length_nil
def Vu:=@Nat.le_antisymm
def Vv:=@or_false
def Vw:=@List.take_succ
def Vx:=@and_true
def Vy:=@not_or
theorem cx{b:Type}{l:List b}{i:Nat}{a:b}(h:l[i]?=some a):∃h:i<l.length,l[i]=a:=List.getElem?_eq_some_iff.mp h
namespace L2
open PySem
def ku(s:ay)(j:Nat):ay:=match s with
 |.ClassDef _ _ _ a _ _ _ _ _ _ _=>a.getD j (.Pass ⟨0,0,0,0⟩)
 |_=>.Pass ⟨0,0,0,0⟩
def qF(s:ay):Arguments:=match s with
 |.FunctionDef _ a _ _ _ _ _ _ _ _=>a
 |_=>{posonlyargs:=[],args:=[],vararg:=none,kwonlyargs:=[],kw_defaults:=[],kwarg:=none,defaults:=[]}
def oA(s:ay):List ay:=match s with
 |.FunctionDef _ _ b _ _ _ _ _ _ _=>b
 |_=>[]
def cg(s:ay):ax:=match s with
 |.FunctionDef _ _ _ _ _ _ a _ _ _=>a
 |_=>{kind:=.function,names:=[],isGenerator:=false,isCoroutine:=false}
end L2
namespace Pr
open PySem
def top(i:Nat):ay:=PySem.Challenge.pw_quarterfold_k36_deeds_refused.main.body.getD i (.Pass ⟨0,0,0,0⟩)
end Pr
namespace Hd
open PySem PySem.W
abbrev pw:ah:=PySem.Challenge.pw_quarterfold_k36_deeds_refused
abbrev iE:aa:=.str "quarterfold.deeds" 518
abbrev jm:aa:=.str "quarterfold.rows" 335
abbrev mW:aa:=.str "law_quarterfold_k36_deeds_refused" 710
abbrev n8:aa:=.str "quarterfold.tellings" 465
abbrev Hc:aa:=.str "quarterfold.floors" 447
def kh(P:Params)(x:aq):Int:=PySem.PyData.keyHash P x
def oM(n q:aq)(st:ay)(m:aa)(c:Nat):aw:=⟨.type "function",none,.func (fnOf n q (L2.qF st) (L2.oA st) (L2.cg st) .none .none .none m none (.ref c) .none),#[]⟩
def oF(n:aq)(st:ay)(m:aa)(c:Nat):aw:=⟨.type "function",none,.func (fnOf n n (L2.qF st) (L2.oA st) (L2.cg st) .none .none .none m none (.ref c) .none),#[]⟩
def oT(n q:aq)(st:ay):aw:=⟨.none,none,.func {fnOf n q (L2.qF st) (L2.oA st) (L2.cg st) .none .none .none .none none .none .none with globals:=0},#[]⟩
def oC(n q:aq)(d e c l a r1 r2:Nat)(y z:aa)(f k b:Nat):aw:=⟨.type "code",none,.fields #[.str n d,.str q e,.str "/claim/cut.py" c,.int l 0,.int a 0,.int 0 0,.int 0 0,.int 3 0,.ref r1,.bool true,.int 181 0,.ref r2,.none,y,z,.ref f,.int k 0,.int l 0,.str "/claim/cut.py" b],#[]⟩
abbrev aM:PySem.Obj:=⟨.type "tuple",none,(.seq #[] 0),#[]⟩
abbrev dh:PySem.Obj:=⟨.none,none,(.fields #[]),#[]⟩
abbrev bH(a:Array PySem.Value):PySem.Obj:=⟨.type "tuple",none,(.seq a 0),#[]⟩
abbrev aF(P:Params)(x:aq)(n:Tok)(v:aa):DictEntry:=⟨kh P x,.str x n,v⟩
def K0(P:Params):Frag:=
(nat_lit 2,⟨.none,none,(.dict #[] 0),#[]⟩)::
 (nat_lit 3,⟨.type "dict",none,(.dict #[aF P "__name__" 165 (.str "law_quarterfold_k36_deeds_refused" 710),aF P "__doc__" 166 .none,aF P "__package__" 167 .none,aF P "__loader__" 168 (.builtin "__main__.__loader__#opaque"),aF P "__spec__" 169 .none,aF P "__annotations__" 170 (.ref 6),aF P "__builtins__" 171 (.ref 4),aF P "__file__" 173 (.str "/claim/cut.py" 172),aF P "__cached__" 174 .none,aF P "FloorError" 206 (.ref 24),aF P "NoFloor" 222 (.ref 37),aF P "NoCell" 238 (.ref 49),aF P "NoShape" 254 (.ref 61),aF P "NoTelling" 270 (.ref 73),aF P "NoText" 286 (.ref 85),aF P "TooMany" 302 (.ref 97),aF P "OtherFloor" 318 (.ref 109),aF P "NoNumber" 334 (.ref 121),aF P "EMPTY" 338 (.int 0 337),aF P "FULL" 340 (.int 1 339),aF P "FIRST" 342 (.int 2 341),aF P "is_whole" 349 (.ref 130),aF P "is_plain" 356 (.ref 137),aF P "depths_of" 362 (.ref 142),aF P "end_rows" 372 (.ref 149),aF P "places_as_ended" 381 (.ref 156),aF P "renumbered" 387 (.ref 161),aF P "shape_of" 399 (.ref 168),aF P "Book" 446 (.ref 199),aF P "GREATEST_SIZE" 450 (.int 12 449),aF P "is_size" 457 (.ref 210),aF P "side_of" 464 (.ref 217),aF P "is_number" 474 (.ref 224),aF P "is_row" 480 (.ref 229),aF P "are_rows" 486 (.ref 234),aF P "is_telling" 496 (.ref 241),aF P "is_shape" 502 (.ref 246),aF P "want_shape" 509 (.ref 253),aF P "want_one_floor" 517 (.ref 260),aF P "JOINED" 524 (.ref 261),aF P "CUT" 529 (.ref 262),aF P "WITHOUT" 534 (.ref 263),aF P "UNLIKE" 539 (.ref 264),aF P "exchanged" 546 (.ref 271),aF P "exchanged_rows" 552 (.ref 276),aF P "both_ways" 561 (.ref 283),aF P "number_beside_plain" 570 (.ref 290),aF P "Deed" 613 (.ref 312),aF P "brought_together" 623 (.ref 323),aF P "joined" 631 (.ref 330),aF P "cut" 639 (.ref 337),aF P "without" 647 (.ref 344),aF P "unlike" 655 (.ref 351),aF P "left_out" 665 (.ref 358),aF P "lies_in" 673 (.ref 365),aF P "some_full_cell" 679 (.ref 370),aF P "parting" 687 (.ref 377),aF P "gather_pairs" 700 (.ref 384),aF P "pairs" 709 (.ref 391),aF P "_law_purse" 722 (.ref 398),aF P "_law_draw" 731 (.ref 405),aF P "_law_quarter" 739 (.ref 412),aF P "_law_depths" 745 (.ref 417),aF P "_law_rows" 751 (.ref 422),aF P "_law_ends" 761 (.ref 429),aF P "_law_shape" 767 (.ref 434),aF P "_law_drawn" 777 (.ref 441),aF P "_law_two" 789 (.ref 448),aF P "_law_deed" 798 (.ref 455),aF P "_law_class_of" 805 (.ref 462),aF P "_law_refusal" 816 (.ref 469),aF P "_law_odd" 827 (.ref 476),aF P "_law_spoiled" 841 (.ref 483),aF P "_law_deed_right" 854 (.ref 490),aF P "law" 870 (.ref 497)] 75),#[]⟩)::
 (nat_lit 15,(bH #[.type "ValueError"]))::
 (nat_lit 22,aM)::
 (nat_lit 23,⟨.type "dict",none,(.dict #[aF P "__module__" 196 (.str "quarterfold.errors" 187),aF P "__firstlineno__" 200 (.int 2 199),aF P "__static_attributes__" 201 (.ref 22),aF P "__weakref__" 203 (.ref 25),aF P "__doc__" 204 .none] 3),#[]⟩)::
 (nat_lit 24,⟨.type "type",none,(.cls ⟨"FloorError",[.type "ValueError"],[.ref 24,.type "ValueError",.type "Exception",.type "BaseException",.type "object"],23,"FloorError",true,[],[.ref 37,.ref 49,.ref 61,.ref 73,.ref 85,.ref 97,.ref 109,.ref 121],false,none,false⟩),#[some (.ref 15),none,some (.str "FloorError" 189),some (.str "FloorError" 197),some (.builtin "ValueError.__new__"),some (.bool true)]⟩)::
 (nat_lit 25,⟨.type "getset_descriptor",none,(.fields #[.str "__weakref__" 202,.ref 24,.builtin "ExceptionGroup.__weakref__",.none]),#[]⟩)::
 (nat_lit 28,(bH #[.ref 24]))::
 (nat_lit 35,aM)::
 (nat_lit 36,⟨.type "dict",none,(.dict #[aF P "__module__" 214 (.str "quarterfold.errors" 187),aF P "__firstlineno__" 218 (.int 4 217),aF P "__static_attributes__" 219 (.ref 35),aF P "__doc__" 220 .none] 2),#[]⟩)::
 (nat_lit 37,⟨.type "type",none,(.cls ⟨"NoFloor",[.ref 24],[.ref 37,.ref 24,.type "ValueError",.type "Exception",.type "BaseException",.type "object"],36,"NoFloor",true,[],[],false,none,false⟩),#[some (.ref 28),none,some (.str "NoFloor" 207),some (.str "NoFloor" 215),some (.builtin "ValueError.__new__"),some (.bool true)]⟩)::
 (nat_lit 40,(bH #[.ref 24]))::
 (nat_lit 47,aM)::
 (nat_lit 48,⟨.type "dict",none,(.dict #[aF P "__module__" 230 (.str "quarterfold.errors" 187),aF P "__firstlineno__" 234 (.int 6 233),aF P "__static_attributes__" 235 (.ref 47),aF P "__doc__" 236 .none] 2),#[]⟩)::
 (nat_lit 49,⟨.type "type",none,(.cls ⟨"NoCell",[.ref 24],[.ref 49,.ref 24,.type "ValueError",.type "Exception",.type "BaseException",.type "object"],48,"NoCell",true,[],[],false,none,false⟩),#[some (.ref 40),none,some (.str "NoCell" 223),some (.str "NoCell" 231),some (.builtin "ValueError.__new__"),some (.bool true)]⟩)::
 (nat_lit 52,(bH #[.ref 24]))::
 (nat_lit 59,aM)::
 (nat_lit 60,⟨.type "dict",none,(.dict #[aF P "__module__" 246 (.str "quarterfold.errors" 187),aF P "__firstlineno__" 250 (.int 8 249),aF P "__static_attributes__" 251 (.ref 59),aF P "__doc__" 252 .none] 2),#[]⟩)::
 (nat_lit 61,⟨.type "type",none,(.cls ⟨"NoShape",[.ref 24],[.ref 61,.ref 24,.type "ValueError",.type "Exception",.type "BaseException",.type "object"],60,"NoShape",true,[],[],false,none,false⟩),#[some (.ref 52),none,some (.str "NoShape" 239),some (.str "NoShape" 247),some (.builtin "ValueError.__new__"),some (.bool true)]⟩)::
 (nat_lit 64,(bH #[.ref 24]))::
 (nat_lit 71,aM)::
 (nat_lit 72,⟨.type "dict",none,(.dict #[aF P "__module__" 262 (.str "quarterfold.errors" 187),aF P "__firstlineno__" 266 (.int 10 265),aF P "__static_attributes__" 267 (.ref 71),aF P "__doc__" 268 .none] 2),#[]⟩)::
 (nat_lit 73,⟨.type "type",none,(.cls ⟨"NoTelling",[.ref 24],[.ref 73,.ref 24,.type "ValueError",.type "Exception",.type "BaseException",.type "object"],72,"NoTelling",true,[],[],false,none,false⟩),#[some (.ref 64),none,some (.str "NoTelling" 255),some (.str "NoTelling" 263),some (.builtin "ValueError.__new__"),some (.bool true)]⟩)::
 (nat_lit 76,(bH #[.ref 24]))::
 (nat_lit 83,aM)::
 (nat_lit 84,⟨.type "dict",none,(.dict #[aF P "__module__" 278 (.str "quarterfold.errors" 187),aF P "__firstlineno__" 282 (.int 12 281),aF P "__static_attributes__" 283 (.ref 83),aF P "__doc__" 284 .none] 2),#[]⟩)::
 (nat_lit 85,⟨.type "type",none,(.cls ⟨"NoText",[.ref 24],[.ref 85,.ref 24,.type "ValueError",.type "Exception",.type "BaseException",.type "object"],84,"NoText",true,[],[],false,none,false⟩),#[some (.ref 76),none,some (.str "NoText" 271),some (.str "NoText" 279),some (.builtin "ValueError.__new__"),some (.bool true)]⟩)::
 (nat_lit 88,(bH #[.ref 24]))::
 (nat_lit 95,aM)::
 (nat_lit 96,⟨.type "dict",none,(.dict #[aF P "__module__" 294 (.str "quarterfold.errors" 187),aF P "__firstlineno__" 298 (.int 14 297),aF P "__static_attributes__" 299 (.ref 95),aF P "__doc__" 300 .none] 2),#[]⟩)::
 (nat_lit 97,⟨.type "type",none,(.cls ⟨"TooMany",[.ref 24],[.ref 97,.ref 24,.type "ValueError",.type "Exception",.type "BaseException",.type "object"],96,"TooMany",true,[],[],false,none,false⟩),#[some (.ref 88),none,some (.str "TooMany" 287),some (.str "TooMany" 295),some (.builtin "ValueError.__new__"),some (.bool true)]⟩)::
 (nat_lit 100,(bH #[.ref 24]))::
 (nat_lit 107,aM)::
 (nat_lit 108,⟨.type "dict",none,(.dict #[aF P "__module__" 310 (.str "quarterfold.errors" 187),aF P "__firstlineno__" 314 (.int 16 313),aF P "__static_attributes__" 315 (.ref 107),aF P "__doc__" 316 .none] 2),#[]⟩)::
 (nat_lit 109,⟨.type "type",none,(.cls ⟨"OtherFloor",[.ref 24],[.ref 109,.ref 24,.type "ValueError",.type "Exception",.type "BaseException",.type "object"],108,"OtherFloor",true,[],[],false,none,false⟩),#[some (.ref 100),none,some (.str "OtherFloor" 303),some (.str "OtherFloor" 311),some (.builtin "ValueError.__new__"),some (.bool true)]⟩)::
 (nat_lit 112,(bH #[.ref 24]))::
 (nat_lit 119,aM)::
 (nat_lit 120,⟨.type "dict",none,(.dict #[aF P "__module__" 326 (.str "quarterfold.errors" 187),aF P "__firstlineno__" 330 (.int 18 329),aF P "__static_attributes__" 331 (.ref 119),aF P "__doc__" 332 .none] 2),#[]⟩)::
 (nat_lit 121,⟨.type "type",none,(.cls ⟨"NoNumber",[.ref 24],[.ref 121,.ref 24,.type "ValueError",.type "Exception",.type "BaseException",.type "object"],120,"NoNumber",true,[],[],false,none,false⟩),#[some (.ref 112),none,some (.str "NoNumber" 319),some (.str "NoNumber" 327),some (.builtin "ValueError.__new__"),some (.bool true)]⟩)::
 (nat_lit 124,aM)::
 (nat_lit 126,(bH #[.str "thing" 346]))::
 (nat_lit 127,aM)::
 (nat_lit 129,oC "is_whole" "is_whole" 343 344 345 24 1 124 125 (.ref 126) (.ref 127) 128 347 348)::
 (nat_lit 130,oF "is_whole" (Pr.top 14) jm 129)::
 (nat_lit 131,aM)::
 (nat_lit 133,(bH #[.str "row" 353]))::
 (nat_lit 134,aM)::
 (nat_lit 136,oC "is_plain" "is_plain" 350 351 352 26 1 131 132 (.ref 133) (.ref 134) 135 354 355)::
 (nat_lit 137,oF "is_plain" (Pr.top 15) jm 136)::
 (nat_lit 138,aM)::
 (nat_lit 141,oC "depths_of" "depths_of" 357 358 359 28 1 138 139 .none .none 140 360 361)::
 (nat_lit 142,oF "depths_of" (Pr.top 16) jm 141)::
 (nat_lit 143,aM)::
 (nat_lit 145,(bH #[.str "rows" 366,.str "number" 367,.str "ended" 368,.str "quarter" 369]))::
 (nat_lit 146,aM)::
 (nat_lit 148,oC "end_rows" "end_rows" 363 364 365 33 3 143 144 (.ref 145) (.ref 146) 147 370 371)::
 (nat_lit 149,oF "end_rows" (Pr.top 17) jm 148)::
 (nat_lit 150,aM)::
 (nat_lit 152,(bH #[.str "rows" 376,.str "top" 377,.str "ended" 378]))::
 (nat_lit 153,aM)::
 (nat_lit 155,oC "places_as_ended" "places_as_ended" 373 374 375 39 2 150 151 (.ref 152) (.ref 153) 154 379 380)::
 (nat_lit 156,oF "places_as_ended" (Pr.top 18) jm 155)::
 (nat_lit 157,aM)::
 (nat_lit 160,oC "renumbered" "renumbered" 382 383 384 43 2 157 158 .none .none 159 385 386)::
 (nat_lit 161,oF "renumbered" (Pr.top 19) jm 160)::
 (nat_lit 162,aM)::
 (nat_lit 164,(bH #[.str "n" 391,.str "top" 392,.str "rows" 393,.str "numbers" 394,.str "told" 395,.str "place" 396]))::
 (nat_lit 165,aM)::
 (nat_lit 167,oC "shape_of" "shape_of" 388 389 390 45 3 162 163 (.ref 164) (.ref 165) 166 397 398)::
 (nat_lit 168,oF "shape_of" (Pr.top 20) jm 167)::
 (nat_lit 176,aM)::
 (nat_lit 178,(bH #[.str "self" 415]))::
 (nat_lit 179,aM)::
 (nat_lit 181,oC "__init__" "Book.__init__" 412 413 414 54 1 176 177 (.ref 178) (.ref 179) 180 416 417)::
 (nat_lit 182,oM "__init__" "Book.__init__" (L2.ku (Pr.top 21) 0) jm 181)::
 (nat_lit 183,aM)::
 (nat_lit 185,(bH #[.str "self" 422,.str "row" 423]))::
 (nat_lit 186,aM)::
 (nat_lit 188,oC "number_for" "Book.number_for" 419 420 421 58 2 183 184 (.ref 185) (.ref 186) 187 424 425)::
 (nat_lit 189,oM "number_for" "Book.number_for" (L2.ku (Pr.top 21) 1) jm 188)::
 (nat_lit 190,aM)::
 (nat_lit 192,(bH #[.str "self" 430,.str "rows" 431,.str "numbers" 432,.str "row" 433]))::
 (nat_lit 193,aM)::
 (nat_lit 195,oC "numbers_for" "Book.numbers_for" 427 428 429 66 2 190 191 (.ref 192) (.ref 193) 194 434 435)::
 (nat_lit 196,oM "numbers_for" "Book.numbers_for" (L2.ku (Pr.top 21) 2) jm 195)::
 (nat_lit 197,(bH #[.str "kept" 437,.str "numbers" 438]))::
 (nat_lit 198,⟨.type "dict",none,(.dict #[aF P "__module__" 407 (.str "quarterfold.rows" 335),aF P "__firstlineno__" 411 (.int 52 410),aF P "__init__" 418 (.ref 182),aF P "number_for" 426 (.ref 189),aF P "numbers_for" 436 (.ref 196),aF P "__static_attributes__" 439 (.ref 197),aF P "__dict__" 441 (.ref 200),aF P "__weakref__" 443 (.ref 201),aF P "__doc__" 444 .none] 4),#[]⟩)::
 (nat_lit 199,⟨.type "type",none,(.cls ⟨"Book",[.type "object"],[.ref 199,.type "object"],198,"Book",true,[],[],false,none,false⟩),#[none,none,some (.str "Book" 400),some (.str "Book" 408),some (.builtin "object.__new__"),some (.bool true)]⟩)::
 (nat_lit 200,⟨.type "getset_descriptor",none,(.fields #[.str "__dict__" 440,.ref 199,.builtin "function.__dict__",.builtin "function.__dict__#set"]),#[]⟩)::
 (nat_lit 201,⟨.type "getset_descriptor",none,(.fields #[.str "__weakref__" 442,.ref 199,.builtin "ExceptionGroup.__weakref__",.none]),#[]⟩)::
 (nat_lit 204,aM)::
 (nat_lit 206,(bH #[.str "thing" 454]))::
 (nat_lit 207,aM)::
 (nat_lit 209,oC "is_size" "is_size" 451 452 453 73 1 204 205 (.ref 206) (.ref 207) 208 455 456)::
 (nat_lit 210,oF "is_size" (Pr.top 24) Hc 209)::
 (nat_lit 211,aM)::
 (nat_lit 213,(bH #[.str "n" 461]))::
 (nat_lit 214,aM)::
 (nat_lit 216,oC "side_of" "side_of" 458 459 460 75 1 211 212 (.ref 213) (.ref 214) 215 462 463)::
 (nat_lit 217,oF "side_of" (Pr.top 25) Hc 216)::
 (nat_lit 218,aM)::
 (nat_lit 220,(bH #[.str "thing" 470,.str "many" 471]))::
 (nat_lit 221,aM)::
 (nat_lit 223,oC "is_number" "is_number" 467 468 469 78 2 218 219 (.ref 220) (.ref 221) 222 472 473)::
 (nat_lit 224,oF "is_number" (Pr.top 27) n8 223)::
 (nat_lit 225,aM)::
 (nat_lit 228,oC "is_row" "is_row" 475 476 477 80 2 225 226 .none .none 227 478 479)::
 (nat_lit 229,oF "is_row" (Pr.top 28) n8 228)::
 (nat_lit 230,aM)::
 (nat_lit 233,oC "are_rows" "are_rows" 481 482 483 84 1 230 231 .none .none 232 484 485)::
 (nat_lit 234,oF "are_rows" (Pr.top 29) n8 233)::
 (nat_lit 235,aM)::
 (nat_lit 237,(bH #[.str "thing" 490,.str "n" 491,.str "top" 492,.str "rows" 493]))::
 (nat_lit 238,aM)::
 (nat_lit 240,oC "is_telling" "is_telling" 487 488 489 86 1 235 236 (.ref 237) (.ref 238) 239 494 495)::
 (nat_lit 241,oF "is_telling" (Pr.top 30) n8 240)::
 (nat_lit 242,aM)::
 (nat_lit 245,oC "is_shape" "is_shape" 497 498 499 93 1 242 243 .none .none 244 500 501)::
 (nat_lit 246,oF "is_shape" (Pr.top 31) n8 245)::
 (nat_lit 247,aM)::
 (nat_lit 249,(bH #[.str "shape" 506]))::
 (nat_lit 250,aM)::
 (nat_lit 252,oC "want_shape" "want_shape" 503 504 505 100 1 247 248 (.ref 249) (.ref 250) 251 507 508)::
 (nat_lit 253,oF "want_shape" (Pr.top 32) n8 252)::
 (nat_lit 254,aM)::
 (nat_lit 256,(bH #[.str "one" 513,.str "other" 514]))::
 (nat_lit 257,aM)::
 (nat_lit 259,oC "want_one_floor" "want_one_floor" 510 511 512 103 2 254 255 (.ref 256) (.ref 257) 258 515 516)::
 (nat_lit 260,oF "want_one_floor" (Pr.top 33) n8 259)::
 (nat_lit 261,(bH #[.int 0 520,.int 1 521,.int 1 522,.int 1 523]))::
 (nat_lit 262,(bH #[.int 0 525,.int 0 526,.int 0 527,.int 1 528]))::
 (nat_lit 263,(bH #[.int 0 530,.int 0 531,.int 1 532,.int 0 533]))::
 (nat_lit 264,(bH #[.int 0 535,.int 1 536,.int 1 537,.int 0 538]))::
 (nat_lit 265,aM)::
 (nat_lit 267,(bH #[.str "number" 543]))::
 (nat_lit 268,aM)::
 (nat_lit 270,oC "exchanged" "exchanged" 540 541 542 113 1 265 266 (.ref 267) (.ref 268) 269 544 545)::
 (nat_lit 271,oF "exchanged" (Pr.top 39) iE 270)::
 (nat_lit 272,aM)::
 (nat_lit 275,oC "exchanged_rows" "exchanged_rows" 547 548 549 117 1 272 273 .none .none 274 550 551)::
 (nat_lit 276,oF "exchanged_rows" (Pr.top 40) iE 275)::
 (nat_lit 277,aM)::
 (nat_lit 279,(bH #[.str "book" 556,.str "rows" 557,.str "left" 558]))::
 (nat_lit 280,aM)::
 (nat_lit 282,oC "both_ways" "both_ways" 553 554 555 119 2 277 278 (.ref 279) (.ref 280) 281 559 560)::
 (nat_lit 283,oF "both_ways" (Pr.top 41) iE 282)::
 (nat_lit 284,aM)::
 (nat_lit 286,(bH #[.str "ways" 565,.str "number" 566,.str "outcomes" 567]))::
 (nat_lit 287,aM)::
 (nat_lit 289,oC "number_beside_plain" "number_beside_plain" 562 563 564 122 3 284 285 (.ref 286) (.ref 287) 288 568 569)::
 (nat_lit 290,oF "number_beside_plain" (Pr.top 42) iE 289)::
 (nat_lit 298,aM)::
 (nat_lit 300,(bH #[.str "self" 586,.str "rows" 587,.str "other_rows" 588,.str "outcomes" 589]))::
 (nat_lit 301,aM)::
 (nat_lit 303,oC "__init__" "Deed.__init__" 583 584 585 128 4 298 299 (.ref 300) (.ref 301) 302 590 591)::
 (nat_lit 304,oM "__init__" "Deed.__init__" (L2.ku (Pr.top 43) 0) iE 303)::
 (nat_lit 305,aM)::
 (nat_lit 308,oC "number_for_pair" "Deed.number_for_pair" 593 594 595 137 3 305 306 .none .none 307 596 597)::
 (nat_lit 309,oM "number_for_pair" "Deed.number_for_pair" (L2.ku (Pr.top 43) 1) iE 308)::
 (nat_lit 310,(bH #[.str "book" 599,.str "known" 600,.str "other_rows" 601,.str "other_ways" 602,.str "outcomes" 603,.str "rows" 604,.str "ways" 605]))::
 (nat_lit 311,⟨.type "dict",none,(.dict #[aF P "__module__" 578 (.str "quarterfold.deeds" 518),aF P "__firstlineno__" 582 (.int 126 581),aF P "__init__" 592 (.ref 304),aF P "number_for_pair" 598 (.ref 309),aF P "__static_attributes__" 606 (.ref 310),aF P "__dict__" 608 (.ref 313),aF P "__weakref__" 610 (.ref 314),aF P "__doc__" 611 .none] 4),#[]⟩)::
 (nat_lit 312,⟨.type "type",none,(.cls ⟨"Deed",[.type "object"],[.ref 312,.type "object"],311,"Deed",true,[],[],false,none,false⟩),#[none,none,some (.str "Deed" 571),some (.str "Deed" 579),some (.builtin "object.__new__"),some (.bool true)]⟩)::
 (nat_lit 313,⟨.type "getset_descriptor",none,(.fields #[.str "__dict__" 607,.ref 312,.builtin "function.__dict__",.builtin "function.__dict__#set"]),#[]⟩)::
 (nat_lit 314,⟨.type "getset_descriptor",none,(.fields #[.str "__weakref__" 609,.ref 312,.builtin "ExceptionGroup.__weakref__",.none]),#[]⟩)::
 (nat_lit 317,aM)::
 (nat_lit 319,(bH #[.str "one" 617,.str "other" 618,.str "outcomes" 619,.str "deed" 620]))::
 (nat_lit 320,aM)::
 (nat_lit 322,oC "brought_together" "brought_together" 614 615 616 147 3 317 318 (.ref 319) (.ref 320) 321 621 622)::
 (nat_lit 323,oF "brought_together" (Pr.top 44) iE 322)::
 (nat_lit 324,aM)::
 (nat_lit 326,(bH #[.str "one" 627,.str "other" 628]))::
 (nat_lit 327,aM)::
 (nat_lit 329,oC "joined" "joined" 624 625 626 151 2 324 325 (.ref 326) (.ref 327) 328 629 630)::
 (nat_lit 330,oF "joined" (Pr.top 45) iE 329)::
 (nat_lit 331,aM)::
 (nat_lit 333,(bH #[.str "one" 635,.str "other" 636]))::
 (nat_lit 334,aM)::
 (nat_lit 336,oC "cut" "cut" 632 633 634 153 2 331 332 (.ref 333) (.ref 334) 335 637 638)::
 (nat_lit 337,oF "cut" (Pr.top 46) iE 336)::
 (nat_lit 338,aM)::
 (nat_lit 340,(bH #[.str "one" 643,.str "other" 644]))::
 (nat_lit 341,aM)::
 (nat_lit 343,oC "without" "without" 640 641 642 155 2 338 339 (.ref 340) (.ref 341) 342 645 646)::
 (nat_lit 344,oF "without" (Pr.top 47) iE 343)::
 (nat_lit 345,aM)::
 (nat_lit 347,(bH #[.str "one" 651,.str "other" 652]))::
 (nat_lit 348,aM)::
 (nat_lit 350,oC "unlike" "unlike" 648 649 650 157 2 345 346 (.ref 347) (.ref 348) 349 653 654)::
 (nat_lit 351,oF "unlike" (Pr.top 48) iE 350)::
 (nat_lit 352,aM)::
 (nat_lit 354,(bH #[.str "shape" 659,.str "n" 660,.str "top" 661,.str "rows" 662]))::
 (nat_lit 355,aM)::
 (nat_lit 357,oC "left_out" "left_out" 656 657 658 159 1 352 353 (.ref 354) (.ref 355) 356 663 664)::
 (nat_lit 358,oF "left_out" (Pr.top 49) iE 357)::
 (nat_lit 359,aM)::
 (nat_lit 361,(bH #[.str "one" 669,.str "other" 670]))::
 (nat_lit 362,aM)::
 (nat_lit 364,oC "lies_in" "lies_in" 666 667 668 163 2 359 360 (.ref 361) (.ref 362) 363 671 672)::
 (nat_lit 365,oF "lies_in" (Pr.top 50) iE 364)::
 (nat_lit 366,aM)::
 (nat_lit 369,oC "some_full_cell" "some_full_cell" 674 675 676 165 1 366 367 .none .none 368 677 678)::
 (nat_lit 370,oF "some_full_cell" (Pr.top 51) iE 369)::
 (nat_lit 371,aM)::
 (nat_lit 373,(bH #[.str "one" 683,.str "other" 684]))::
 (nat_lit 374,aM)::
 (nat_lit 376,oC "parting" "parting" 680 681 682 179 2 371 372 (.ref 373) (.ref 374) 375 685 686)::
 (nat_lit 377,oF "parting" (Pr.top 52) iE 376)::
 (nat_lit 378,aM)::
 (nat_lit 380,(bH #[.str "rows" 691,.str "other_rows" 692,.str "pair" 693,.str "found" 694,.str "number" 695,.str "other" 696,.str "below" 697]))::
 (nat_lit 381,aM)::
 (nat_lit 383,oC "gather_pairs" "gather_pairs" 688 689 690 181 4 378 379 (.ref 380) (.ref 381) 382 698 699)::
 (nat_lit 384,oF "gather_pairs" (Pr.top 53) iE 383)::
 (nat_lit 385,aM)::
 (nat_lit 387,(bH #[.str "one" 704,.str "other" 705,.str "found" 706]))::
 (nat_lit 388,aM)::
 (nat_lit 390,oC "pairs" "pairs" 701 702 703 188 2 385 386 (.ref 387) (.ref 388) 389 707 708)::
 (nat_lit 391,oF "pairs" (Pr.top 54) iE 390)::
 (nat_lit 392,aM)::
 (nat_lit 394,(bH #[.str "_law_script" 715,.str "_law_k" 716,.str "_law_cell" 717,.str "_law_seed" 718,.str "_law_other" 719]))::
 (nat_lit 395,aM)::
 (nat_lit 397,oC "_law_purse" "_law_purse" 712 713 714 194 2 392 393 (.ref 394) (.ref 395) 396 720 721)::
 (nat_lit 398,oF "_law_purse" (Pr.top 56) mW 397)::
 (nat_lit 399,aM)::
 (nat_lit 401,(bH #[.str "_law_purse_here" 726,.str "_law_many" 727,.str "_law_digit" 728]))::
 (nat_lit 402,aM)::
 (nat_lit 404,oC "_law_draw" "_law_draw" 723 724 725 200 2 399 400 (.ref 401) (.ref 402) 403 729 730)::
 (nat_lit 405,oF "_law_draw" (Pr.top 57) mW 404)::
 (nat_lit 406,aM)::
 (nat_lit 408,(bH #[.str "_law_purse_here" 735,.str "_law_may" 736]))::
 (nat_lit 409,aM)::
 (nat_lit 411,oC "_law_quarter" "_law_quarter" 732 733 734 207 2 406 407 (.ref 408) (.ref 409) 410 737 738)::
 (nat_lit 412,oF "_law_quarter" (Pr.top 58) mW 411)::
 (nat_lit 413,aM)::
 (nat_lit 416,oC "_law_depths" "_law_depths" 740 741 742 211 1 413 414 .none .none 415 743 744)::
 (nat_lit 417,oF "_law_depths" (Pr.top 59) mW 416)::
 (nat_lit 418,aM)::
 (nat_lit 421,oC "_law_rows" "_law_rows" 746 747 748 216 4 418 419 .none .none 420 749 750)::
 (nat_lit 422,oF "_law_rows" (Pr.top 60) mW 421)::
 (nat_lit 423,aM)::
 (nat_lit 425,(bH #[.str "_law_number" 755,.str "_law_kept" 756,.str "_law_found" 757,.str "_law_quarter_here" 758]))::
 (nat_lit 426,aM)::
 (nat_lit 428,oC "_law_ends" "_law_ends" 752 753 754 223 3 423 424 (.ref 425) (.ref 426) 427 759 760)::
 (nat_lit 429,oF "_law_ends" (Pr.top 61) mW 428)::
 (nat_lit 430,aM)::
 (nat_lit 433,oC "_law_shape" "_law_shape" 762 763 764 228 3 430 431 .none .none 432 765 766)::
 (nat_lit 434,oF "_law_shape" (Pr.top 62) mW 433)::
 (nat_lit 435,aM)::
 (nat_lit 437,(bH #[.str "_law_purse_here" 771,.str "_law_n" 772,.str "_law_rows_here" 773,.str "_law_top" 774]))::
 (nat_lit 438,aM)::
 (nat_lit 440,oC "_law_drawn" "_law_drawn" 768 769 770 241 3 435 436 (.ref 437) (.ref 438) 439 775 776)::
 (nat_lit 441,oF "_law_drawn" (Pr.top 63) mW 440)::
 (nat_lit 442,aM)::
 (nat_lit 444,(bH #[.str "_law_purse_here" 781,.str "_law_n" 782,.str "_law_most" 783,.str "_law_rows_here" 784,.str "_law_one" 785,.str "_law_more" 786]))::
 (nat_lit 445,aM)::
 (nat_lit 447,oC "_law_two" "_law_two" 778 779 780 244 3 442 443 (.ref 444) (.ref 445) 446 787 788)::
 (nat_lit 448,oF "_law_two" (Pr.top 64) mW 447)::
 (nat_lit 449,aM)::
 (nat_lit 451,(bH #[.str "_law_k" 793,.str "_law_one" 794,.str "_law_other" 795]))::
 (nat_lit 452,aM)::
 (nat_lit 454,oC "_law_deed" "_law_deed" 790 791 792 249 3 449 450 (.ref 451) (.ref 452) 453 796 797)::
 (nat_lit 455,oF "_law_deed" (Pr.top 65) mW 454)::
 (nat_lit 456,aM)::
 (nat_lit 458,(bH #[.str "_law_e" 802]))::
 (nat_lit 459,aM)::
 (nat_lit 461,oC "_law_class_of" "_law_class_of" 799 800 801 265 1 456 457 (.ref 458) (.ref 459) 460 803 804)::
 (nat_lit 462,oF "_law_class_of" (Pr.top 66) mW 461)::
 (nat_lit 463,aM)::
 (nat_lit 465,(bH #[.str "_law_k" 809,.str "_law_one" 810,.str "_law_other" 811,.str "_law_told" 812,.str "_law_e" 813]))::
 (nat_lit 466,aM)::
 (nat_lit 468,oC "_law_refusal" "_law_refusal" 806 807 808 271 3 463 464 (.ref 465) (.ref 466) 467 814 815)::
 (nat_lit 469,oF "_law_refusal" (Pr.top 67) mW 468)::
 (nat_lit 470,aM)::
 (nat_lit 472,(bH #[.str "_law_shape_here" 820,.str "_law_n" 821,.str "_law_top" 822,.str "_law_rows_here" 823,.str "_law_odd_here" 824]))::
 (nat_lit 473,aM)::
 (nat_lit 475,oC "_law_odd" "_law_odd" 817 818 819 278 1 470 471 (.ref 472) (.ref 473) 474 825 826)::
 (nat_lit 476,oF "_law_odd" (Pr.top 68) mW 475)::
 (nat_lit 477,aM)::
 (nat_lit 479,(bH #[.str "_law_purse_here" 831,.str "_law_shape_here" 832,.str "_law_n" 833,.str "_law_top" 834,.str "_law_rows_here" 835,.str "_law_at" 836,.str "_law_quarter_here" 837,.str "_law_row" 838]))::
 (nat_lit 480,aM)::
 (nat_lit 482,oC "_law_spoiled" "_law_spoiled" 828 829 830 289 2 477 478 (.ref 479) (.ref 480) 481 839 840)::
 (nat_lit 483,oF "_law_spoiled" (Pr.top 69) mW 482)::
 (nat_lit 484,aM)::
 (nat_lit 486,(bH #[.str "_law_k" 845,.str "_law_shapes" 846,.str "_law_odd_here" 847,.str "_law_one" 848,.str "_law_other" 849,.str "_law_far" 850,.str "_law_pair" 851]))::
 (nat_lit 487,aM)::
 (nat_lit 489,oC "_law_deed_right" "_law_deed_right" 842 843 844 297 3 484 485 (.ref 486) (.ref 487) 488 852 853)::
 (nat_lit 490,oF "_law_deed_right" (Pr.top 70) mW 489)::
 (nat_lit 491,aM)::
 (nat_lit 493,(bH #[.str "_law_script" 858,.str "_law_k" 859,.str "_law_purse_here" 860,.str "_law_n" 861,.str "_law_one" 862,.str "_law_other" 863,.str "_law_size" 864,.str "_law_far" 865,.str "_law_odd_here" 866,.str "_law_deed_here" 867]))::
 (nat_lit 494,aM)::
 (nat_lit 496,oC "law" "law" 855 856 857 307 1 491 492 (.ref 493) (.ref 494) 495 868 869)::
 (nat_lit 497,oF "law" (Pr.top 71) mW 496)::[]
def xr:List ae:=[2,3,15,22,23,24,25,28,35,36,37,40,47,48,49,52,59,60,61,64,71,72,73,76,83,84,85,88,95,96,97,100,107,108,109,112,119,120,121,124,126,127,129,130,131,133,134,136,137,138,141,142,143,145,146,148,149,150,152,153,155,156,157,160,161,162,164,165,167,168,176,178,179,181,182,183,185,186,188,189,190,192,193,195,196,197,198,199,200,201,204,206,207,209,210,211,213,214,216,217,218,220,221,223,224,225,228,229,230,233,234,235,237,238,240,241,242,245,246,247,249,250,252,253,254,256,257,259,260,261,262,263,264,265,267,268,270,271,272,275,276,277,279,280,282,283,284,286,287,289,290,298,300,301,303,304,305,308,309,310,311,312,313,314,317,319,320,322,323,324,326,327,329,330,331,333,334,336,337,338,340,341,343,344,345,347,348,350,351,352,354,355,357,358,359,361,362,364,365,366,369,370,371,373,374,376,377,378,380,381,383,384,385,387,388,390,391,392,394,395,397,398,399,401,402,404,405,406,408,409,411,412,413,416,417,418,421,422,423,425,426,428,429,430,433,434,435,437,438,440,441,442,444,445,447,448,449,451,452,454,455,456,458,459,461,462,463,465,466,468,469,470,472,473,475,476,477,479,480,482,483,484,486,487,489,490,491,493,494,496,497]
def Ef:List Nat:=[1,2,3,4,5,6,7,8,9,11,12,13,14,15,16,17,18,19,20,21,23,24,25,27,28,29,30,31,32,33,35,36,37,38,39,40,41,42,43,44,45,46,47,48,49,50,51,52,53,54,56,57,58,59,60,61,62,63,64,65,66,67,68,69,70,71]
def N0:Nat:=8134
noncomputable def bx(P:Params)(a t l:Nat)(x:aq):List aw:=[(bH #[.ref 24]),
⟨.type "builtin_function_or_method",none,(.fields #[.builtin "type.__prepare__",.type "type"]),#[]⟩,
⟨.type "dict",none,(.dict #[⟨kh P "__module__",.str "__module__" (t+7),.str "quarterfold.errors" 187⟩,⟨kh P "__qualname__",.str "__qualname__" (t+9),.str x (t+8)⟩,⟨kh P "__firstlineno__",.str "__firstlineno__" (t+11),.int l (t+10)⟩,⟨kh P "__static_attributes__",.str "__static_attributes__" (t+12),.ref (a+7)⟩] 4),#[]⟩,
aM,
dh,
⟨.type "code",none,(.fields #[.str x (t+2),.str x (t+3),.str "/claim/cut.py" (t+4),.int l 0,.int 0 0,.int 0 0,.int 0 0,.int 0 0,.ref (a+3),.bool false,.int 181 0,.ref (a+4),.none,.none,.none,.none,.int (t+5) 0,.int l 0,.str "/claim/cut.py" (t+6)]),#[]⟩,
⟨.type "frame",none,.plain,#[some (.ref (a+5)),some (.ref 3),some (.ref (a+2)),none,some (.str "quarterfold.errors" 187),none,some (.ref 0)]⟩,
aM,
⟨.type "dict",none,(.dict #[⟨kh P "__module__",.str "__module__" (t+7),.str "quarterfold.errors" 187⟩,⟨kh P "__firstlineno__",.str "__firstlineno__" (t+11),.int l (t+10)⟩,⟨kh P "__static_attributes__",.str "__static_attributes__" (t+12),.ref (a+7)⟩,⟨kh P "__doc__",.str "__doc__" (t+13),.none⟩] 2),#[]⟩,
⟨.type "type",none,(.cls ⟨x,[.ref 24],[.ref (a+9),.ref 24,.type "ValueError",.type "Exception",.type "BaseException",.type "object"],(a+8),x,true,[],[],false,none,false⟩),#[some (.ref a),none,some (.str x t),some (.str x (t+8)),some (.builtin "ValueError.__new__"),some (.bool true)]⟩,
⟨.type "super",none,(.fields #[.ref (a+9),.ref (a+9),.ref (a+9)]),#[]⟩,
⟨.type "builtin_function_or_method",none,(.fields #[.builtin "object.__init_subclass__",.ref (a+9)]),#[]⟩]
noncomputable def ob(P:Params):List aw:=[boot_o_0 P,boot_o_1 P,boot_o_2 P,⟨.type "dict",none,(.dict #[aF P "__name__" 165 (.str "quarterfold.deeds" 518),aF P "__doc__" 166 .none,aF P "__package__" 167 .none,aF P "__loader__" 168 (.builtin "__main__.__loader__#opaque"),aF P "__spec__" 169 .none,aF P "__annotations__" 170 (.ref 6),aF P "__builtins__" 171 (.ref 4),aF P "__file__" 173 (.str "/claim/cut.py" 172),aF P "__cached__" 174 .none,aF P "FloorError" 206 (.ref 24),aF P "NoFloor" 222 (.ref 37),aF P "NoCell" 238 (.ref 49),aF P "NoShape" 254 (.ref 61),aF P "NoTelling" 270 (.ref 73),aF P "NoText" 286 (.ref 85),aF P "TooMany" 302 (.ref 97),aF P "OtherFloor" 318 (.ref 109),aF P "NoNumber" 334 (.ref 121),aF P "EMPTY" 338 (.int 0 337),aF P "FULL" 340 (.int 1 339),aF P "FIRST" 342 (.int 2 341),aF P "is_whole" 349 (.ref 130),aF P "is_plain" 356 (.ref 137),aF P "depths_of" 362 (.ref 142),aF P "end_rows" 372 (.ref 149),aF P "places_as_ended" 381 (.ref 156),aF P "renumbered" 387 (.ref 161),aF P "shape_of" 399 (.ref 168),aF P "Book" 446 (.ref 199),aF P "GREATEST_SIZE" 450 (.int 12 449),aF P "is_size" 457 (.ref 210),aF P "side_of" 464 (.ref 217),aF P "is_number" 474 (.ref 224),aF P "is_row" 480 (.ref 229),aF P "are_rows" 486 (.ref 234),aF P "is_telling" 496 (.ref 241),aF P "is_shape" 502 (.ref 246),aF P "want_shape" 509 (.ref 253),aF P "want_one_floor" 517 (.ref 260),aF P "JOINED" 524 (.ref 261),aF P "CUT" 529 (.ref 262),aF P "WITHOUT" 534 (.ref 263),aF P "UNLIKE" 539 (.ref 264),aF P "exchanged" 546 (.ref 271),aF P "exchanged_rows" 552 (.ref 276),aF P "both_ways" 561 (.ref 283),aF P "number_beside_plain" 570 (.ref 290),aF P "Deed" 613 (.ref 312)] 48),#[]⟩,boot_o_4 P,boot_o_5 P,boot_o_6 P,boot_o_7 P,boot_o_8 P,boot_o_9 P,boot_o_10 P,aM,⟨.none,none,(.fields #[.int 2 0,.int 0 0,.ref 20,.int 4 0,.int 0 0,.ref 33,.int 6 0,.int 0 0,.ref 45,.int 8 0,.int 0 0,.ref 57,.int 10 0,.int 0 0,.ref 69,.int 12 0,.int 0 0,.ref 81,.int 14 0,.int 0 0,.ref 93,.int 16 0,.int 0 0,.ref 105,.int 18 0,.int 0 0,.ref 117,.int 24 0,.int 0 0,.ref 129,.int 26 0,.int 0 0,.ref 136,.int 28 0,.int 0 0,.ref 141,.int 33 0,.int 0 0,.ref 148,.int 39 0,.int 0 0,.ref 155,.int 43 0,.int 0 0,.ref 160,.int 45 0,.int 0 0,.ref 167,.int 52 0,.int 0 0,.ref 174,.int 73 0,.int 0 0,.ref 209,.int 75 0,.int 0 0,.ref 216,.int 78 0,.int 0 0,.ref 223,.int 80 0,.int 0 0,.ref 228,.int 84 0,.int 0 0,.ref 233,.int 86 0,.int 0 0,.ref 240,.int 93 0,.int 0 0,.ref 245,.int 100 0,.int 0 0,.ref 252,.int 103 0,.int 0 0,.ref 259,.int 113 0,.int 0 0,.ref 270,.int 117 0,.int 0 0,.ref 275,.int 119 0,.int 0 0,.ref 282,.int 122 0,.int 0 0,.ref 289,.int 126 0,.int 0 0,.ref 296]),#[]⟩,⟨.type "code",none,(.fields #[.str "<module>" 182,.str "<module>" 183,.str "/claim/cut.py" 184,.int 1 0,.int 0 0,.int 0 0,.int 0 0,.int 0 0,.ref 11,.bool false,.int 181 0,.ref 12,.none,.none,.none,.none,.int 185 0,.int 1 0,.str "/claim/cut.py" 186]),#[]⟩,⟨.type "frame",none,.plain,#[some (.ref 13),some (.ref 3),some (.ref 3),none,some (.str "__main__" 164),none,some (.ref 0)]⟩,(bH #[.type "ValueError"]),⟨.type "builtin_function_or_method",none,(.fields #[.builtin "type.__prepare__",.type "type"]),#[]⟩,⟨.type "dict",none,(.dict #[aF P "__module__" 196 (.str "quarterfold.errors" 187),aF P "__qualname__" 198 (.str "FloorError" 197),aF P "__firstlineno__" 200 (.int 2 199),aF P "__static_attributes__" 201 (.ref 22)] 4),#[]⟩,aM,dh,⟨.type "code",none,(.fields #[.str "FloorError" 191,.str "FloorError" 192,.str "/claim/cut.py" 193,.int 2 0,.int 0 0,.int 0 0,.int 0 0,.int 0 0,.ref 18,.bool false,.int 181 0,.ref 19,.none,.none,.none,.none,.int 194 0,.int 2 0,.str "/claim/cut.py" 195]),#[]⟩,⟨.type "frame",none,.plain,#[some (.ref 20),some (.ref 3),some (.ref 17),none,some (.str "quarterfold.errors" 187),none,some (.ref 0)]⟩,aM,⟨.type "dict",none,(.dict #[aF P "__module__" 196 (.str "quarterfold.errors" 187),aF P "__firstlineno__" 200 (.int 2 199),aF P "__static_attributes__" 201 (.ref 22),aF P "__weakref__" 203 (.ref 25),aF P "__doc__" 204 .none] 3),#[]⟩,⟨.type "type",none,(.cls ⟨"FloorError",[.type "ValueError"],[.ref 24,.type "ValueError",.type "Exception",.type "BaseException",.type "object"],23,"FloorError",true,[],[.ref 37,.ref 49,.ref 61,.ref 73,.ref 85,.ref 97,.ref 109,.ref 121],false,none,false⟩),#[some (.ref 15),none,some (.str "FloorError" 189),some (.str "FloorError" 197),some (.builtin "ValueError.__new__"),some (.bool true)]⟩,⟨.type "getset_descriptor",none,(.fields #[.str "__weakref__" 202,.ref 24,.builtin "ExceptionGroup.__weakref__",.none]),#[]⟩,⟨.type "super",none,(.fields #[.ref 24,.ref 24,.ref 24]),#[]⟩,⟨.type "builtin_function_or_method",none,(.fields #[.builtin "object.__init_subclass__",.ref 24]),#[]⟩]++(bx P 28 207 4 "NoFloor"++(bx P 40 223 6 "NoCell"++(bx P 52 239 8 "NoShape"++(bx P 64 255 10 "NoTelling"++(bx P 76 271 12 "NoText"++(bx P 88 287 14 "TooMany"++(bx P 100 303 16 "OtherFloor"++(bx P 112 319 18 "NoNumber"++([aM,dh,(bH #[.str "thing" 346]),aM,oT "is_whole" "is_whole" (Pr.top 14),oC "is_whole" "is_whole" 343 344 345 24 1 124 125 (.ref 126) (.ref 127) 128 347 348,oF "is_whole" (Pr.top 14) jm 129,aM,dh,(bH #[.str "row" 353]),aM,oT "is_plain" "is_plain" (Pr.top 15),oC "is_plain" "is_plain" 350 351 352 26 1 131 132 (.ref 133) (.ref 134) 135 354 355,oF "is_plain" (Pr.top 15) jm 136,aM,dh,oT "depths_of" "depths_of" (Pr.top 16),oC "depths_of" "depths_of" 357 358 359 28 1 138 139 .none .none 140 360 361,oF "depths_of" (Pr.top 16) jm 141,aM,dh,(bH #[.str "rows" 366,.str "number" 367,.str "ended" 368,.str "quarter" 369]),aM,oT "end_rows" "end_rows" (Pr.top 17),oC "end_rows" "end_rows" 363 364 365 33 3 143 144 (.ref 145) (.ref 146) 147 370 371,oF "end_rows" (Pr.top 17) jm 148,aM,dh,(bH #[.str "rows" 376,.str "top" 377,.str "ended" 378]),aM,oT "places_as_ended" "places_as_ended" (Pr.top 18),oC "places_as_ended" "places_as_ended" 373 374 375 39 2 150 151 (.ref 152) (.ref 153) 154 379 380,oF "places_as_ended" (Pr.top 18) jm 155,aM,dh,oT "renumbered" "renumbered" (Pr.top 19),oC "renumbered" "renumbered" 382 383 384 43 2 157 158 .none .none 159 385 386,oF "renumbered" (Pr.top 19) jm 160,aM,dh,(bH #[.str "n" 391,.str "top" 392,.str "rows" 393,.str "numbers" 394,.str "told" 395,.str "place" 396]),aM,oT "shape_of" "shape_of" (Pr.top 20),oC "shape_of" "shape_of" 388 389 390 45 3 162 163 (.ref 164) (.ref 165) 166 397 398,oF "shape_of" (Pr.top 20) jm 167,aM,⟨.type "builtin_function_or_method",none,(.fields #[.builtin "type.__prepare__",.type "type"]),#[]⟩,⟨.type "dict",none,(.dict #[aF P "__module__" 407 (.str "quarterfold.rows" 335),aF P "__qualname__" 409 (.str "Book" 408),aF P "__firstlineno__" 411 (.int 52 410),aF P "__init__" 418 (.ref 182),aF P "number_for" 426 (.ref 189),aF P "numbers_for" 436 (.ref 196),aF P "__static_attributes__" 439 (.ref 197)] 7),#[]⟩,aM,⟨.none,none,(.fields #[.int 54 0,.int 4 0,.ref 181,.int 58 0,.int 4 0,.ref 188,.int 66 0,.int 4 0,.ref 195]),#[]⟩,⟨.type "code",none,(.fields #[.str "Book" 402,.str "Book" 403,.str "/claim/cut.py" 404,.int 52 0,.int 0 0,.int 0 0,.int 0 0,.int 0 0,.ref 172,.bool false,.int 181 0,.ref 173,.none,.none,.none,.none,.int 405 0,.int 52 0,.str "/claim/cut.py" 406]),#[]⟩,⟨.type "frame",none,.plain,#[some (.ref 174),some (.ref 3),some (.ref 171),none,some jm,none,some (.ref 0)]⟩,aM,dh,(bH #[.str "self" 415]),aM,oT "__init__" "Book.__init__" (L2.ku (Pr.top 21) 0),oC "__init__" "Book.__init__" 412 413 414 54 1 176 177 (.ref 178) (.ref 179) 180 416 417,oM "__init__" "Book.__init__" (L2.ku (Pr.top 21) 0) jm 181,aM,dh,(bH #[.str "self" 422,.str "row" 423]),aM,oT "number_for" "Book.number_for" (L2.ku (Pr.top 21) 1),oC "number_for" "Book.number_for" 419 420 421 58 2 183 184 (.ref 185) (.ref 186) 187 424 425,oM "number_for" "Book.number_for" (L2.ku (Pr.top 21) 1) jm 188,aM,dh,(bH #[.str "self" 430,.str "rows" 431,.str "numbers" 432,.str "row" 433]),aM,oT "numbers_for" "Book.numbers_for" (L2.ku (Pr.top 21) 2),oC "numbers_for" "Book.numbers_for" 427 428 429 66 2 190 191 (.ref 192) (.ref 193) 194 434 435,oM "numbers_for" "Book.numbers_for" (L2.ku (Pr.top 21) 2) jm 195,(bH #[.str "kept" 437,.str "numbers" 438]),⟨.type "dict",none,(.dict #[aF P "__module__" 407 (.str "quarterfold.rows" 335),aF P "__firstlineno__" 411 (.int 52 410),aF P "__init__" 418 (.ref 182),aF P "number_for" 426 (.ref 189),aF P "numbers_for" 436 (.ref 196),aF P "__static_attributes__" 439 (.ref 197),aF P "__dict__" 441 (.ref 200),aF P "__weakref__" 443 (.ref 201),aF P "__doc__" 444 .none] 4),#[]⟩,⟨.type "type",none,(.cls ⟨"Book",[.type "object"],[.ref 199,.type "object"],198,"Book",true,[],[],false,none,false⟩),#[none,none,some (.str "Book" 400),some (.str "Book" 408),some (.builtin "object.__new__"),some (.bool true)]⟩,⟨.type "getset_descriptor",none,(.fields #[.str "__dict__" 440,.ref 199,.builtin "function.__dict__",.builtin "function.__dict__#set"]),#[]⟩,⟨.type "getset_descriptor",none,(.fields #[.str "__weakref__" 442,.ref 199,.builtin "ExceptionGroup.__weakref__",.none]),#[]⟩,⟨.type "super",none,(.fields #[.ref 199,.ref 199,.ref 199]),#[]⟩,⟨.type "builtin_function_or_method",none,(.fields #[.builtin "object.__init_subclass__",.ref 199]),#[]⟩,aM,dh,(bH #[.str "thing" 454]),aM,oT "is_size" "is_size" (Pr.top 24),oC "is_size" "is_size" 451 452 453 73 1 204 205 (.ref 206) (.ref 207) 208 455 456,oF "is_size" (Pr.top 24) Hc 209,aM,dh,(bH #[.str "n" 461]),aM,oT "side_of" "side_of" (Pr.top 25),oC "side_of" "side_of" 458 459 460 75 1 211 212 (.ref 213) (.ref 214) 215 462 463,oF "side_of" (Pr.top 25) Hc 216,aM,dh,(bH #[.str "thing" 470,.str "many" 471]),aM,oT "is_number" "is_number" (Pr.top 27),oC "is_number" "is_number" 467 468 469 78 2 218 219 (.ref 220) (.ref 221) 222 472 473,oF "is_number" (Pr.top 27) n8 223,aM,dh,oT "is_row" "is_row" (Pr.top 28),oC "is_row" "is_row" 475 476 477 80 2 225 226 .none .none 227 478 479,oF "is_row" (Pr.top 28) n8 228,aM,dh,oT "are_rows" "are_rows" (Pr.top 29),oC "are_rows" "are_rows" 481 482 483 84 1 230 231 .none .none 232 484 485,oF "are_rows" (Pr.top 29) n8 233,aM,dh,(bH #[.str "thing" 490,.str "n" 491,.str "top" 492,.str "rows" 493]),aM,oT "is_telling" "is_telling" (Pr.top 30),oC "is_telling" "is_telling" 487 488 489 86 1 235 236 (.ref 237) (.ref 238) 239 494 495,oF "is_telling" (Pr.top 30) n8 240,aM,dh,oT "is_shape" "is_shape" (Pr.top 31),oC "is_shape" "is_shape" 497 498 499 93 1 242 243 .none .none 244 500 501,oF "is_shape" (Pr.top 31) n8 245,aM,dh,(bH #[.str "shape" 506]),aM,oT "want_shape" "want_shape" (Pr.top 32),oC "want_shape" "want_shape" 503 504 505 100 1 247 248 (.ref 249) (.ref 250) 251 507 508,oF "want_shape" (Pr.top 32) n8 252,aM,dh,(bH #[.str "one" 513,.str "other" 514]),aM,oT "want_one_floor" "want_one_floor" (Pr.top 33),oC "want_one_floor" "want_one_floor" 510 511 512 103 2 254 255 (.ref 256) (.ref 257) 258 515 516,oF "want_one_floor" (Pr.top 33) n8 259,(bH #[.int 0 520,.int 1 521,.int 1 522,.int 1 523]),(bH #[.int 0 525,.int 0 526,.int 0 527,.int 1 528]),(bH #[.int 0 530,.int 0 531,.int 1 532,.int 0 533]),(bH #[.int 0 535,.int 1 536,.int 1 537,.int 0 538]),aM,dh,(bH #[.str "number" 543]),aM,oT "exchanged" "exchanged" (Pr.top 39),oC "exchanged" "exchanged" 540 541 542 113 1 265 266 (.ref 267) (.ref 268) 269 544 545,oF "exchanged" (Pr.top 39) iE 270,aM,dh,oT "exchanged_rows" "exchanged_rows" (Pr.top 40),oC "exchanged_rows" "exchanged_rows" 547 548 549 117 1 272 273 .none .none 274 550 551,oF "exchanged_rows" (Pr.top 40) iE 275,aM,dh,(bH #[.str "book" 556,.str "rows" 557,.str "left" 558]),aM,oT "both_ways" "both_ways" (Pr.top 41),oC "both_ways" "both_ways" 553 554 555 119 2 277 278 (.ref 279) (.ref 280) 281 559 560,oF "both_ways" (Pr.top 41) iE 282,aM,dh,(bH #[.str "ways" 565,.str "number" 566,.str "outcomes" 567]),aM,oT "number_beside_plain" "number_beside_plain" (Pr.top 42),oC "number_beside_plain" "number_beside_plain" 562 563 564 122 3 284 285 (.ref 286) (.ref 287) 288 568 569,oF "number_beside_plain" (Pr.top 42) iE 289,aM,⟨.type "builtin_function_or_method",none,(.fields #[.builtin "type.__prepare__",.type "type"]),#[]⟩,⟨.type "dict",none,(.dict #[aF P "__module__" 578 (.str "quarterfold.deeds" 518),aF P "__qualname__" 580 (.str "Deed" 579),aF P "__firstlineno__" 582 (.int 126 581),aF P "__init__" 592 (.ref 304),aF P "number_for_pair" 598 (.ref 309),aF P "__static_attributes__" 606 (.ref 310)] 6),#[]⟩,aM,⟨.none,none,(.fields #[.int 128 0,.int 4 0,.ref 303,.int 137 0,.int 4 0,.ref 308]),#[]⟩,⟨.type "code",none,(.fields #[.str "Deed" 573,.str "Deed" 574,.str "/claim/cut.py" 575,.int 126 0,.int 0 0,.int 0 0,.int 0 0,.int 0 0,.ref 294,.bool false,.int 181 0,.ref 295,.none,.none,.none,.none,.int 576 0,.int 126 0,.str "/claim/cut.py" 577]),#[]⟩,⟨.type "frame",none,.plain,#[some (.ref 296),some (.ref 3),some (.ref 293),none,some iE,none,some (.ref 0)]⟩,aM,dh,(bH #[.str "self" 586,.str "rows" 587,.str "other_rows" 588,.str "outcomes" 589]),aM,oT "__init__" "Deed.__init__" (L2.ku (Pr.top 43) 0),oC "__init__" "Deed.__init__" 583 584 585 128 4 298 299 (.ref 300) (.ref 301) 302 590 591,oM "__init__" "Deed.__init__" (L2.ku (Pr.top 43) 0) iE 303,aM,dh,oT "number_for_pair" "Deed.number_for_pair" (L2.ku (Pr.top 43) 1),oC "number_for_pair" "Deed.number_for_pair" 593 594 595 137 3 305 306 .none .none 307 596 597,oM "number_for_pair" "Deed.number_for_pair" (L2.ku (Pr.top 43) 1) iE 308,(bH #[.str "book" 599,.str "known" 600,.str "other_rows" 601,.str "other_ways" 602,.str "outcomes" 603,.str "rows" 604,.str "ways" 605]),⟨.type "dict",none,(.dict #[aF P "__module__" 578 (.str "quarterfold.deeds" 518),aF P "__firstlineno__" 582 (.int 126 581),aF P "__init__" 592 (.ref 304),aF P "number_for_pair" 598 (.ref 309),aF P "__static_attributes__" 606 (.ref 310),aF P "__dict__" 608 (.ref 313),aF P "__weakref__" 610 (.ref 314),aF P "__doc__" 611 .none] 4),#[]⟩,⟨.type "type",none,(.cls ⟨"Deed",[.type "object"],[.ref 312,.type "object"],311,"Deed",true,[],[],false,none,false⟩),#[none,none,some (.str "Deed" 571),some (.str "Deed" 579),some (.builtin "object.__new__"),some (.bool true)]⟩,⟨.type "getset_descriptor",none,(.fields #[.str "__dict__" 607,.ref 312,.builtin "function.__dict__",.builtin "function.__dict__#set"]),#[]⟩,⟨.type "getset_descriptor",none,(.fields #[.str "__weakref__" 609,.ref 312,.builtin "ExceptionGroup.__weakref__",.none]),#[]⟩,⟨.type "super",none,(.fields #[.ref 312,.ref 312,.ref 312]),#[]⟩,⟨.type "builtin_function_or_method",none,(.fields #[.builtin "object.__init_subclass__",.ref 312]),#[]⟩])))))))))
noncomputable def hA(P:Params):ao:=⟨⟨((((ob P).take 15).set 3 (boot_o_3 P)).set 12 (dh))⟩,(boot_heap P).life⟩
noncomputable def h1(P:Params):ao:=⟨⟨((((ob P).take 124).set 3 (⟨.type "dict",none,(.dict #[aF P "__name__" 165 (.str "quarterfold.rows" 335),aF P "__doc__" 166 .none,aF P "__package__" 167 .none,aF P "__loader__" 168 (.builtin "__main__.__loader__#opaque"),aF P "__spec__" 169 .none,aF P "__annotations__" 170 (.ref 6),aF P "__builtins__" 171 (.ref 4),aF P "__file__" 173 (.str "/claim/cut.py" 172),aF P "__cached__" 174 .none,aF P "FloorError" 206 (.ref 24),aF P "NoFloor" 222 (.ref 37),aF P "NoCell" 238 (.ref 49),aF P "NoShape" 254 (.ref 61),aF P "NoTelling" 270 (.ref 73),aF P "NoText" 286 (.ref 85),aF P "TooMany" 302 (.ref 97),aF P "OtherFloor" 318 (.ref 109),aF P "NoNumber" 334 (.ref 121),aF P "EMPTY" 338 (.int 0 337),aF P "FULL" 340 (.int 1 339),aF P "FIRST" 342 (.int 2 341)] 21),#[]⟩)).set 12 (⟨.none,none,(.fields #[.int 2 0,.int 0 0,.ref 20,.int 4 0,.int 0 0,.ref 33,.int 6 0,.int 0 0,.ref 45,.int 8 0,.int 0 0,.ref 57,.int 10 0,.int 0 0,.ref 69,.int 12 0,.int 0 0,.ref 81,.int 14 0,.int 0 0,.ref 93,.int 16 0,.int 0 0,.ref 105,.int 18 0,.int 0 0,.ref 117]),#[]⟩))⟩,(boot_heap P).life⟩
noncomputable def h2(P:Params):ao:=⟨⟨(ob P)⟩,(boot_heap P).life⟩
noncomputable def bd:List ay:=behindTheImports pw
noncomputable def ev:Env:={scope:=pw.main.scope,locals:=mainNs,globals:=mainNs,cells:=[],code:=.ref 13,frame:=some 14}
noncomputable def cE:Code:=.body bd ev
noncomputable abbrev sh (h:Params->ao) (k:Nat) (w:ak) (a:OsState):af:=⟨h w.params,Array.mk [],boot_drawn,k,a⟩
noncomputable abbrev fr:List Frame:=[topFrame ⟨0,0,0,0⟩]
theorem M7(w:ak)(a:OsState):topGo treeTable pw w 11 (some (.ref 6)) 12 (sh boot_heap boot_toks w a) (topStub pw)=some (sh hA 187 w a,⟨denote treeTable cE,cE,⟨0,0,0,0⟩,fr⟩):=by kernel_rfl
theorem QP(w:ak)(a:OsState):segRun treeTable pw w 11 (some (.ref 6)) 1 1 (sh hA 187 w a) (blockOf bd ev cE ⟨0,0,0,0⟩ fr)=some (.next,sh hA 187 w a,cE,⟨0,0,0,0⟩):=by kernel_rfl
theorem Tv{tb:String->Option Builtin}{p:ah}{w:ak}{d:Nat}{a:Option aa}{env:Env}{q:aA}{n N j:Nat}{s s' r:af}{l:List ay}{c:Code}{b e:aA}(h:segRun tb p w d a 1 n s (piecesOf (l.take j) env c b [topFrame q])=some (.next,s',c,e))
  (k:topRun tb p w d a N s' (restOf (l.drop j) env c e [topFrame q])=some r):topRun tb p w d a (n+N) s (restOf l env c b [topFrame q])=some r:=by
 have:=piece_app (l:=l.take j) (rest:=l.drop j) h k
 rwa [Xe]at this
theorem xj1{p q:ah}{loose:List aq}{Xt:af->Bool}{x:Type}{A:af->x}{y:ak->x}{N:Nat}{B:Bool}{aK:Params->ao}{g:Array GenState}{m:Drawn}{u f M v:Nat}{a:Option aa}{Z:ak->OsState->af}{T:Thread}
  (O:∀w:ak,(fencedOpening treeTable p w N).map (λs=>(s.heap,s.gens,s.drawn,s.toks))=some (aK w.params,g,m,u))
  (c:∀w:ak,((aK w.params).isNs mainGlobals&&g.size==0,(aK w.params).objs.size,(aK w.params).nsMap mainGlobals "__annotations__")=(true,f,a))
  (j:∀(w:ak)(b:OsState)(r:af),topRun treeTable p w f a v (Z w b) T=some r->topRun treeTable p w f a M ⟨aK w.params,g,m,u,b⟩ (topStub p)=some r) (H:Nat.ble M N=true)
  (l:∀(w:ak)(b:OsState),(topRun treeTable p w f a v (Z w b) T).map (λs=>(staticsOk (importedModules p.main.body) (aK w.params) s.heap&&namesBound p s.heap&&gensDone s&&laidKept (aK w.params) s.heap,openSeen q loose (importedModules p.main.body) Xt B s,A s))=some (true,openGood q loose,y w)):LeftO p q loose Xt A y N B:=λw=>by
 obtain⟨⟨h,i,d,k,b⟩,e,L⟩:=Zp.mp (O w);obtain⟨rfl,rfl,rfl,rfl⟩:h=aK w.params/\i=g/\d=m/\k=u:=by simpa using L
 obtain⟨F,J,D⟩:_/\_/\_:=by simpa only[Prod.mk.injEq]using c w
 obtain⟨r,I,E⟩:=Zp.mp (l w b);obtain⟨G,K,P⟩:_/\_/\_:=by simpa only[Prod.mk.injEq]using E
 have C:=topRun_mono (N-M) _ _ _ _ (j w b r I);rw[show M+(N-M)=N by have:=Nat.le_of_ble_eq_true H;lia]at C;have t:topFrom treeTable p w N ⟨aK w.params,i,d,k,b⟩=some r:=by
  unfold topFrom;dsimp only;rw[F,J,D,C];show(match staticsOk (importedModules p.main.body) (aK w.params) r.heap&&namesBound p r.heap&&gensDone r&&laidKept (aK w.params) r.heap with|true=>_|false=>_)=_;rw[G]
 unfold openEnds;rw[e];show(topFrom treeTable p w N ⟨aK w.params,i,d,k,b⟩).map _=_;rw[t];show some (_,_)=some (_,_);rw[K,P]
theorem Lp(w:ak)(a:OsState):segRun treeTable pw w 11 (some (.ref 6)) 1 1985 (sh hA 187 w a) (piecesOf (bd.take 14) ev cE ⟨0,0,0,0⟩ fr)=some (.next,sh h1 343 w a,cE,⟨23,0,23,5⟩):=by kernel_rfl
theorem Lo(w:ak)(a:OsState):segRun treeTable pw w 11 (some (.ref 6)) 1 1269 (sh h1 343 w a) (piecesOf ((bd.drop 14).take 30) ev cE ⟨23,0,23,5⟩ fr)=some (.next,sh h2 614 w a,cE,⟨126,0,146,40⟩):=by kernel_rfl
theorem Ly(w:ak)(a:OsState)(r:af)(h:topRun treeTable pw w 11 (some (.ref 6)) 911 (sh h2 614 w a) (restOf ((bd.drop 14).drop 30) ev cE ⟨126,0,146,40⟩ fr)=some r):topRun treeTable pw w 11 (some (.ref 6)) (12+(1+(1985+(1269+911)))) (sh boot_heap boot_toks w a) (topStub pw)=some r:=go_top (M7 w a) (piece_block (QP w a) (Tv (Lp w a) (Tv (Lo w a) h)))
theorem Nj:opening pw=plainProg pw.main.scope.names:=by kernel_rfl
theorem Qx(s:af):fenceModules? pw s=some s:=by kernel_rfl
def q0:ah:={pw with main:={pw.main with body:=Ef.map Pr.top}}
theorem nS:∀P,xr=(K0 P).map (·.1):=λ_=>by kernel_rfl
abbrev X0:af->Bool:=λs=>xlAt q0 [] s&&recOk (RowW.records (OpenRow.toRowW (OpenLaw.row PySem.Challenge.rw_quarterfold_k36_deeds_refused))) s
set_option maxHeartbeats 0 in
theorem Qv(w:ak)(os:OsState):(topRun treeTable pw w 11 (some (.ref 6)) 911 (sh h2 614 w os) (restOf ((bd.drop 14).drop 30) ev cE ⟨126,0,146,40⟩ fr)).map (λs=>(staticsOk (importedModules pw.main.body) (boot_heap w.params) s.heap&&namesBound pw s.heap&&gensDone s&&laidKept (boot_heap w.params) s.heap,openSeen q0 [] (importedModules pw.main.body) X0 true s,Hook.obs (kHook Hd.K0 Hd.xr Hd.nS) s))=some (true,openGood q0 [],Hook.val (kHook Hd.K0 Hd.xr Hd.nS) w):=by kernel_rfl
theorem xM3:LeftO pw q0 [] X0 (Hook.obs (kHook Hd.K0 Hd.xr Hd.nS)) (Hook.val (kHook Hd.K0 Hd.xr Hd.nS)) N0:=xj1 (boot_open Nj rfl Qx) (λw=>by kernel_rfl) Ly 'd' Qv
end Hd
namespace L2
theorem Ni{b:Type}{l:List b}(h:l.length=1):∃a,l=[a]:=List.length_eq_one_iff.mp h
theorem I_{c:Type}{l:List c}(h:l.length=2):∃a b,l=[a,b]:=by
 obtain⟨a,m,rfl⟩:=List.exists_cons_of_length_eq_add_one h;obtain⟨b,rfl⟩:=Ni (Nat.succ.inj h);exact⟨a,b,rfl⟩
end L2
theorem Dx{p A B:Prop}[Decidable p](h:p)(a:A):if decide p=true then A else B:=by rw[Zr (Zq h)];exact a
theorem qC{p A B:Prop}[Decidable p](h:¬p)(b:B):if decide p=true then A else B:=by rw[Zi (λz=>h (ZI z))];exact b
namespace L2
open PySem PySem.Spec PyProof.Rows
abbrev Key:=Sum Int aq
def yq:Key->aa->Bool
 |.inl k,v=>Value.isInt k v
 |.inr x,v=>Value.isStrOf x v
def NY(w:ak):Key->Int
 |.inl k=>hashInt k
 |.inr x=>hashStr w x
theorem sE:∀{k:Key}{v:aa},yq k v=true->(∃i t,k=Sum.inl i/\v=Value.int i t)\/(∃x t,k=Sum.inr x/\v=Value.str x t)
 |.inl i,v,h=>by
  obtain⟨t,e⟩:=Value.isInt_shape (k:=i) (v:=v) h;exact .inl ⟨i,t,rfl,e⟩
 |.inr x,v,h=>by
  obtain⟨t,e⟩:=Value.isStrOf_shape (x:=x) (v:=v) h;exact .inr ⟨x,t,rfl,e⟩
theorem q39(i:Int)(t:Tok):yq (.inl i) (.int i t)=true:=by simp[yq,Value.isInt]
theorem q40(x:aq)(t:Tok):yq (.inr x) (.str x t)=true:=by simp[yq,Value.isStrOf]
theorem xE9(a b:Int):decide ((Sum.inl a:Key)=Sum.inl b)=(a==b):=by
 by_cases e:a=b
 ·subst e;simp
 ·have h:¬(Sum.inl a:Key)=Sum.inl b:=λq=>e (Vc q);rw[Zy h];exact(YD.mpr e).symm
theorem xF0(a b:aq):decide ((Sum.inr a:Key)=Sum.inr b)=decide (a=b):=by
 by_cases e:a=b
 ·subst e;simp
 ·have h:¬(Sum.inr a:Key)=Sum.inr b:=λq=>e (Sum.inr.inj q);rw[Zy h,Zy e]
theorem xF1(a:Int)(b:aq):decide ((Sum.inl a:Key)=Sum.inr b)=false:=Zy (λq=>nomatch q)
theorem xF2(a:aq)(b:Int):decide ((Sum.inr a:Key)=Sum.inl b)=false:=Zy (λq=>nomatch q)
def gc(prog:ah)(w:ak):PySem.KeyKind prog w Key where
 is:=yq
 hash:=NY w
 inj:=λv a b d hb=>by
  rcases sE d with⟨i,t,rfl,rfl⟩|⟨x,t,rfl,rfl⟩
  ·rcases sE hb with⟨j,u,rfl,e⟩|⟨y,u,rfl,e⟩
   ·injection e with e1 _;rw[e1]
   ·exact nomatch e
  ·rcases sE hb with⟨j,u,rfl,e⟩|⟨y,u,rfl,e⟩
   ·exact nomatch e
   ·injection e with e1 _;rw[e1]
 byValue:=λk v h=>by
  rcases sE h with⟨i,t,rfl,rfl⟩|⟨x,t,rfl,rfl⟩<;>rfl
 pyHash:=λc h=>by
  rcases sE c with⟨i,t,rfl,rfl⟩|⟨x,t,rfl,rfl⟩
  ·exact wpAny_pyHash_int h
  ·exact wpAny_pyHash_str h
 eqBool:=λf c h=>by
  rcases sE f with⟨i,t,rfl,rfl⟩|⟨x,t,rfl,rfl⟩
  ·rcases sE c with⟨j,u,rfl,rfl⟩|⟨y,u,rfl,rfl⟩
   ·rw[xE9]at h;exact wpAny_eqBool_int h
   ·rw[xF1]at h;exact SeqAt.EqAt.int_str i t y u _ _ _ _ h
  ·rcases sE c with⟨j,u,rfl,rfl⟩|⟨y,u,rfl,rfl⟩
   ·rw[xF2]at h;exact SeqAt.EqAt.str_int x t j u _ _ _ _ h
   ·rw[xF0]at h;exact wpAny_eqBool_str h
 «strs»:=λk x t v h=>by
  rcases sE h with⟨i,u,rfl,e⟩|⟨y,u,rfl,e⟩
  ·exact nomatch e
  ·injection e with e1 _
   subst e1;cases v<;>rfl
theorem qQ8(prog:ah)(w:ak)(i:Int)(t:Tok):(gc prog w).is (.inl i) (.int i t)=true:=q39 i t
theorem qQ9(prog:ah)(w:ak)(x:aq)(t:Tok):(gc prog w).is (.inr x) (.str x t)=true:=q40 x t
inductive V where
 |cA|bl (b:Bool)|int (i:Int)|str (x:aq)|p4 (b:Array UInt8)|zT (b:UInt64)|ref (a:ae)|ty (n:String)
 deriving DecidableEq
def RelV:V->aa->Prop
 |.cA,u=>u=Value.none
 |.bl b,u=>u=Value.bool b
 |.int i,u=>∃t,u=Value.int i t
 |.str x,u=>∃t,u=Value.str x t
 |.p4 b,u=>∃t,u=Value.bytes b t
 |.zT b,u=>∃t,u=Value.float b t
 |.ref a,u=>u=Value.ref a
 |.ty n,u=>u=Value.type n
abbrev Vals:List V->List aa->Prop:=Paired RelV
theorem Vals.length{xs:List V}{us:List aa}(r:Vals xs us):xs.length=us.length:=XH r
theorem Vals.get:∀{b:List V}{a:List aa}{i:Nat}{x:V},Vals b a->b[i]?=some x->∃u,a[i]?=some u/\RelV x u
 |_,_,_,_,.nil,e=>by simp at e
 |_,_,0,_,.cons r _,e=>by simp at e;subst e;exact⟨_,rfl,r⟩
 |_,_,i+1,x,.cons _ t,e=>by
  obtain⟨u,h1,h2⟩:=Vals.get (i:=i) (x:=x) t (by simpa using e);exact⟨u,by simpa using h1,h2⟩
theorem Vals.set{x:V}{u:aa}(r:RelV x u):∀{a:List V}{b:List aa}(i:Nat),Vals a b->Vals (a.set i x) (b.set i u)
 |_,_,_,.nil=>.nil
 |_,_,0,.cons _ t=>.cons r t
 |_,_,i+1,.cons q t=>.cons q (Vals.set r i t)
theorem Vals.append:∀{d c:List V}{b a:List aa},Vals d b->Vals c a->Vals (d++c) (b++a)
 |_,_,_,_,.nil,s=>s
 |_,_,_,_,.cons r t,s=>.cons r (Vals.append t s)
theorem Vals.take:∀{a:List V}{b:List aa}(n:Nat),Vals a b->Vals (a.take n) (b.take n)
 |_,_,0,_=>.nil
 |_,_,_+1,.nil=>.nil
 |_,_,n+1,.cons r t=>.cons r (Vals.take n t)
theorem Vals.drop:∀{a:List V}{b:List aa}(n:Nat),Vals a b->Vals (a.drop n) (b.drop n)
 |_,_,0,r=>r
 |_,_,_+1,.nil=>.nil
 |_,_,n+1,.cons _ t=>Vals.drop n t
def fZ:Option V->Option aa->Prop
 |some v,some u=>RelV v u
 |none,none=>True
 |_,_=>False
def KV{a:Type}:List (a×V)->List (a×aa)->Prop:=Paired λ(p:a×V) (q:a×aa)=>p.1=q.1/\RelV p.2 q.2
def kV:Key->V
 |.inl i=>.int i
 |.inr x=>.str x
inductive HO where
 |lst (xs:List V)
 |tup (xs:List V)
 |dK (kvs:List (Key×V))|dT (kvs:List (List Key×V))
 |set (S:Int->Bool) (n:Nat)
 |ins (C dx:ae) (fs:List (aq×V))
 |own (x:ae)
 |xd (fs:List (aq×V))
 |met (f x:ae)
 |tE (lo hi:Int)
 |ic (o:aw) (u:HO)
 |uG (ps:Array aa)
 |ext (φ:ao->Prop)
abbrev Hp:=ae->Option HO
def upd(H:Hp)(a:ae)(o:HO):Hp:=λb=>if b=a then some o else H b
theorem aX{H:Hp}{a:ae}{o:HO}:upd H a o a=some o:=by unfold upd;rw[Zr rfl]
theorem bo{H:Hp}{a b:ae}{o:HO}(h:b≠a):upd H a o b=H b:=by unfold upd;rw[Zi h]
theorem xv9{H:Hp}{a:ae}{o u:HO}:upd (upd H a o) a u=upd H a u:=by
 funext b;unfold upd;split<;>rfl
theorem Dw{H:Hp}{a b:ae}{o u:HO}(h:H a=some o)(h':H b=some u)(d:o≠u):a≠b:=by
 intro e;subst e;rw[h]at h';exact d (Zu h')
theorem ck{H:Hp}{a b:ae}{o:HO}(h:H a=some o)(h':H b=none):a≠b:=by
 intro e;subst e;rw[h]at h';cases h'
def cJ(h:ao)(a:ae)(items:Array aa):Prop:=∃o,h.get? a=some o/\o.cls=.type "tuple" /\ ∃n:{n:Nat // o.dict=none},o.data=.seq items n.1
theorem cJ.is{h:ao}{a:ae}{items:Array aa}(x:cJ h a items):IsTup h a items:=let ⟨o,h1,h2,n,h3⟩:=x;⟨o,h1,h2,n.1,h3⟩
theorem cJ.new(h:ao)(items:Array aa):cJ (h.push {cls:=.type "tuple",data:=.seq items}) h.objs.size items:=⟨_,Zh _ rfl,rfl,⟨_,rfl⟩,rfl⟩
instance{h:ao}{a:ae}{items:Array aa}:Coe (cJ h a items) (IsTup h a items):=⟨cJ.is⟩
instance{h:ao}{a:ae}{items:Array aa}:Coe (cJ h a items) (h.IsTuple a items):=⟨cJ.is⟩
section
variable(P:ah)(w:ak)
def bV(H:Hp)(h:ao)(a:ae):HO->Prop
 |.lst c=>c.length<=sizeLine/\∃(e:List aa)(n:Nat),Vals c e/\h.get? a=some {cls:=.type "list",data:=.seq e.toArray n}
 |.tup c=>c.length<=sizeLine/\∃e:List aa,Vals c e/\cJ h a e.toArray
 |.dK b=>b.length<=sizeLine/\(a==sysModules)=false/\∃j,KV b j/\h.DictOf (gc P w) a j
 |.dT b=>b.length<=sizeLine/\(a==sysModules)=false/\∃c:List (List Key×ae×aa),
   Paired (λ(p:List Key×V) (q:List Key×ae×aa)=>p.1=q.1/\H q.2.1=some (.tup (p.1.map kV))/\RelV p.2 q.2.2) b c /\
   ∃o k r,h.get? a=some o/\o.ExactDict/\o.data=.dict k r/\k.toList=c.map (entryOfKey (tupleKind (gc P w)))/\(c.map (·.1)).Nodup
 |.set S n=>h.SetOf (intKind P w) a S n
 |.ins C g fs=>H g=some (.own a)/\fs.length<=1000/\g≠a/\h.get? a=some (PySem.W.instObj C g) /\
   ∃d,h.Ns1 g d/\(∀f,fZ (fs.lookup f) (d f))/\PySem.Within d (fs.map (·.1))
 |.own _=>∃o,h.get? a=some o
 |.xd fs=>∃d,h.Ns1 a d/\∀f,fZ (fs.lookup f) (d f)
 |.tE l s=>∃t u v,h.get? a=some {cls:=.type "range",data:=.fields #[.int l t,.int s u,.int 1 v]}
 |.ic o u=>h.get? a=some o/\bV H h a u
 |.uG m=>h.get? a=some {cls:=.none,data:=.fields m}
 |.met f x=>h.get? a=some (PySem.W.methodObj (.ref f) (.ref x))
 |.ext i=>i h/\(∃o,h.get? a=some o)/\∀h1 h2:ao,i h1->(∀o,h1.get? a=some o->h2.get? a=some o)->i h2
def eV(H:Hp)(h:ao):Prop:=∀a o,H a=some o->bV P w H h a o
end
section
variable{H H':Hp}{h h':ao}{a:ae}{o:HO}
theorem bV.lt(x:bV P w H h a o):a<h.objs.size:=by
 cases o with
 |lst c=>obtain⟨_,_,_,_,e⟩:=x;exact Zl e
 |tup c=>obtain⟨_,_,_,p⟩:=x;exact(cJ.is p).lt
 |dK b=>obtain⟨_,_,_,_,o,_,_,e,_⟩:=x;exact Zl e
 |dT b=>obtain⟨_,_,_,_,o,_,_,e,_⟩:=x;exact Zl e
 |set S n=>obtain⟨o,_,_,_,e,_⟩:=x;exact Zl e
 |ins C j fs=>obtain⟨_,_,_,e,_⟩:=x;exact Zl e
 |own y=>obtain⟨_,e⟩:=x;exact Zl e
 |xd fs=>obtain⟨_,⟨_,_,_,e,_⟩,_⟩:=x;exact Zl e
 |tE d g=>obtain⟨_,_,_,e⟩:=x;exact Zl e
 |ic ob u=>obtain⟨e,_⟩:=x;exact Zl e
 |uG k=>exact Zl (show h.get? a=some _ from x)
 |met f y=>exact Zl (show h.get? a=some _ from x)
 |ext i=>obtain⟨_,⟨_,e⟩,_⟩:=x;exact Zl e
theorem Paired.zc{d e:Type}{F G:d->e->Prop}:∀{g:List d}{c:List e},Paired F g c->(∀a b,F a b->G a b)->Paired G g c
 |_,_,.nil,_=>.nil
 |_,_,.cons r t,f=>.cons (f _ _ r) (Paired.zc t f)
theorem bV.fM(x:bV P w H h a o)(k:∀b u,(b=a\/H b=some (.own a))->h.get? b=some u->h'.get? b=some u)
  (G:∀b,H b=some (.own a)->H' b=some (.own a)) (K:∀b j,H b=some (.tup j)->H' b=some (.tup j)):bV P w H' h' a o:=by
 induction o with
 |lst j=>obtain⟨z,m,n,r,e⟩:=x;exact⟨z,m,n,r,k _ _ (.inl rfl) e⟩
 |tup j=>obtain⟨z,m,r,ob,e,c⟩:=x;exact⟨z,m,r,ob,k _ _ (.inl rfl) e,c⟩
 |dK s=>obtain⟨z,y,I,r,ob,g,i,e,c⟩:=x;exact⟨z,y,I,r,ob,g,i,k _ _ (.inl rfl) e,c⟩
 |dT s=>
  obtain⟨z,y,j,r,ob,g,i,e,c⟩:=x;exact⟨z,y,j,Paired.zc r λp q z=>⟨z.1,K _ _ z.2.1,z.2.2⟩,ob,g,i,k _ _ (.inl rfl) e,c⟩
 |set S n=>obtain⟨ob,g,i,t,e,c⟩:=x;exact⟨ob,g,i,t,k _ _ (.inl rfl) e,c⟩
 |ins C M fs=>
  obtain⟨d,z,F,e,A,⟨l,g,i,E,c⟩,r⟩:=x;exact⟨G _ d,z,F,k _ _ (.inl rfl) e,A,⟨l,g,i,k _ _ (.inr d) E,c⟩,r⟩
 |own y=>obtain⟨ob,e⟩:=x;exact⟨ob,k _ _ (.inl rfl) e⟩
 |xd fs=>obtain⟨A,⟨l,g,i,e,c⟩,r⟩:=x;exact⟨A,⟨l,g,i,k _ _ (.inl rfl) e,c⟩,r⟩
 |tE L N=>obtain⟨t,u,v,e⟩:=x;exact⟨t,u,v,k _ _ (.inl rfl) e⟩
 |ic ob u J=>obtain⟨e,q⟩:=x;exact⟨k _ _ (.inl rfl) e,J q⟩
 |uG D=>
  have e:h.get? a=some {cls:=.none,data:=.fields D}:=x;show h'.get? a=some {cls:=.none,data:=.fields D};exact k a _ (.inl rfl) e
 |met f y=>
  have e:h.get? a=some (PySem.W.methodObj (.ref f) (.ref y)):=x;show h'.get? a=some (PySem.W.methodObj (.ref f) (.ref y));exact k a _ (.inl rfl) e
 |ext O=>obtain⟨p,⟨o,e⟩,B⟩:=x;exact⟨B _ _ p λo q=>k _ _ (.inl rfl) q,⟨o,k _ _ (.inl rfl) e⟩,B⟩
theorem eV.lt(x:eV P w H h)(e:H a=some o):a<h.objs.size:=(x a o e).lt
theorem eV.fresh(x:eV P w H h)(e:h.objs.size<=a):H a=none:=by
 cases q:H a with
 |none=>rfl
 |some u=>exact absurd (ZJ (x.lt q) e) (YH _)
theorem eV.kept(x:eV P w H h)(k:∀b u,h.get? b=some u->h'.get? b=some u):eV P w H h':=λa o e=>
 (x a o e).fM (λb u _ q=>k b u q) (λ_ q=>q) λ_ _ q=>q
theorem eV.laid(x:eV P w H h)(k:∀b u,h.get? b=some u->h'.get? b=some u)(f:h.objs.size<=a)(new:bV P w (upd H a o) h' a o):eV P w (upd H a o) h':=λb u e=>by
 have d:=x.fresh f;by_cases hb:b=a
 ·subst hb;rw[aX]at e;cases e;exact new
 ·rw[bo hb]at e;exact(x b u e).fM (λc v _ q=>k c v q) (λc q=>by rw[bo (ck q d)];exact q) λc g q=>by rw[bo (ck q d)];exact q
end
def Rd(H:Hp)(a:ae)(u:HO):Prop:=H a=some u\/∃o,H a=some (.ic o u)
theorem Rd.ok{P:ah}{w:ak}{H:Hp}{h:ao}{a:ae}{u:HO}(r:Rd H a u)(x:eV P w H h):bV P w H h a u:=by
 rcases r with r|⟨o,r⟩
 ·exact x a u r
 ·obtain⟨_,q⟩:=x a _ r;exact q
def Gg:Option HO->Prop
 |some (.lst _)=>True
 |some (.dK _)=>True
 |some (.dT _)=>True
 |some (.set _ _)=>True
 |some (.ins _ _ _)=>True
 |some (.ext _)=>True
 |_=>False
section
variable{H:Hp}{h h':ao}{x e:ae}{o':HO}
theorem eV.write(ok:eV P w H h)(d:Gg (H x))(i:e=x\/H e=some (.own x))(k:∀b u,b≠e->h.get? b=some u->h'.get? b=some u)(m:∃u,h'.get? e=some u)
  (new:bV P w (upd H x o') h' x o'):eV P w (upd H x o') h':=λb u q=>by
 have j:∀c y,H c=some (.own y)->c≠x:=λc y r z=>by subst z;rw[r]at d;exact d
 have s:∀c g,H c=some (.tup g)->c≠x:=λc g r z=>by subst z;rw[r]at d;exact d
 by_cases hb:b=x
 ·subst hb;rw[aX]at q;cases q;exact new
 ·rw[bo hb]at q;by_cases a:b=e
  ·have l:H b=some (.own x):=by
    rcases i with z|z
    ·exact absurd (a.trans z) hb
    ·rw[a];exact z
   rw[q]at l;cases l;obtain⟨v,p⟩:=m;exact⟨v,by rw[a];exact p⟩
  ·refine(ok b u q).fM (λc v f r=>k c v ?_ r) (λc r=>by rw[bo (j c b r)];exact r) λc g r=>by rw[bo (s c g r)];exact r
   rcases f with rfl|f
   ·exact a
   ·rintro rfl;rcases i with z|z
    ·exact j c b f z
    ·rw[f]at z;cases z;exact hb rfl
end
structure Un(fs ex:List ae)(H H':Hp)(h h':ao):Prop where
 keep:∀b o,h.get? b=some o->H b=none->b∉fs->b∉ex->h'.get? b=some o
 slot:∀b o,h.get? b=some o->H b=none->b∈fs->b∉ex->∃sl,h'.get? b=some {o with slots:=sl}
 free:∀b o,h.get? b=some o->H b=none->b∉ex->H' b=none
 there:∀b o,h.get? b=some o->b∉ex->∃o',h'.get? b=some o'
 cC:∀b xs,H b=some (.tup xs)->H' b=some (.tup xs)
 gq:∀b o u,H b=some (.ic o u)->H' b=some (.ic o u)
 gG:∀b ps,H b=some (.uG ps)->∃more,H' b=some (.uG (ps++more))
section
variable{fs fs' ex ex':List ae}{H H1 H2:Hp}{h h1 h2 h':ao}{a x e:ae}{o:HO}
theorem Un.any(u:Un fs ex H H1 h h1){b:ae}{ob:aw}(q:h.get? b=some ob)(n:H b=none)(c:b∉ex):∃d,h1.get? b=some {ob with slots:=d}:=by
 by_cases hb:b∈fs
 ·exact u.slot b ob q n hb c
 ·exact⟨ob.slots,u.keep b ob q n hb c⟩
theorem Un.kept(k:∀b u,h.get? b=some u->h'.get? b=some u):Un fs ex H H h h':=
 ⟨λb ob q _ _ _=>k b ob q,λb ob q _ _ _=>⟨ob.slots,k b ob q⟩,λ_ _ _ n _=>n,λb ob q _=>⟨ob,k b ob q⟩,λ_ _ q=>q,λ_ _ _ q=>q,λ_ c q=>⟨#[],by rw[q];simp⟩⟩
theorem Un.refl:Un fs ex H H h h:=Un.kept λ_ _ q=>q
theorem Un.laid(k:∀b u,h.get? b=some u->h'.get? b=some u)(d:h.objs.size<=a)(c:H a=none):Un fs ex H (upd H a o) h h' where
 keep:=λb u q _ _ _=>k b u q
 slot:=λb u q _ _ _=>⟨u.slots,k b u q⟩
 free:=λb u q n _=>by rw[bo (Zz (ZJ (Zl q) d))];exact n
 there:=λb u q _=>⟨u,k b u q⟩
 cC:=λb f q=>by rw[bo (ck q c)];exact q
 gq:=λb u f q=>by rw[bo (ck q c)];exact q
 gG:=λb g q=>⟨#[],by rw[bo (ck q c),q];simp⟩
theorem Un.write(c:Gg (H x))(i:e=x\/H e=some (.own x))(k:∀b u,b≠e->h.get? b=some u->h'.get? b=some u)(j:∃u,h'.get? e=some u):Un fs ex H (upd H x o) h h':=by
 have g:∀b,H b=none->b≠x:=λb n z=>by subst z;rw[n]at c;exact c
 have hb:∀b,H b=none->b≠e:=λb n z=>by
  subst z;rcases i with r|r
  ·exact g b n r
  ·rw[n]at r;cases r
 have d:∀b u,H b=some u->¬Gg (some u)->b≠x:=λb u q nm z=>by subst z;rw[q]at c;exact nm c
 refine⟨λb u q n _ _=>k b u (hb b n) q,λb u q n _ _=>⟨u.slots,k b u (hb b n) q⟩,λb u q n _=>by rw[bo (g b n)];exact n,λb u q _=>?_,
  λb l q=>by rw[bo (d b _ q λz=>z)];exact q,λb u l q=>by rw[bo (d b _ q λz=>z)];exact q,λb m q=>⟨#[],by rw[bo (d b _ q λz=>z),q];simp⟩⟩
 by_cases f:b=e
 ·subst f;exact j
 ·exact⟨u,k b u f q⟩
end
def Hf(h:ao)(H:Hp):List ae:=(List.range h.objs.size).filter λa=>(H a).isSome
def lO(h:ao)(H:Hp):ao:=PySem.W.hideAll h (Hf h H)
theorem q42(h:ao)(H:Hp):(lO h H).objs.size=h.objs.size:=PySem.W.hideAll_size _ _
theorem xj2{h:ao}{H:Hp}{b:ae}{o:aw}(e:h.get? b=some o)(n:H b=none):(lO h H).get? b=some o:=
 WY _ e λa=>by
  have q:(H b).isSome=true:=(WS.mp a).2;rw[n]at q;simp at q
theorem xw0{h:ao}{H:Hp}{b:ae}{o:aw}(e:(lO h H).get? b=some o):h.get? b=some o/\H b=none:=by
 have a:h.get? b=some o:=Wm (Hf h H) e;refine⟨a,?_⟩;cases q:H b with
 |none=>rfl
 |some x=>
  have c:b∈Hf h H:=WS.mpr ⟨ZX.mpr (Zl a),by simp[q]⟩;have z:(lO h H).get? b=none:=PySem.W.hideAll_none (Hf h H) c;rw[z]at e;cases e
structure Mod(K:PySem.W.Frag)(mg:aq->Option aa)(base:ao):Prop where
 wx:K.In base
 glob:base.Ns mainGlobals mg
 blt:∃mb,base.Ns builtinsNs mb/\∀x:aq,x ≠ "__name__"->mb x=bootBuiltins x
 nolimit:base.NoLimit
structure Cx where
 prog:ah
 w:ak
 K:PySem.W.Frag
 mg:aq->Option aa
 base:ao
 A:au
 N:List aq
 aG:af
 aK:Hp
 env:Env
 outer:List Env
 stack:List Env
 ex:List ae
 fn:aq->Bool
 calm:Bool
 pn:List (ae×aw)
 xe:aa->af->Prop
def dO(l:List Env):List ae:=l.filterMap (·.frame)
abbrev Cx.fs(X:Cx):List ae:=dO X.outer
def uB(a:ax)(x:aq):Prop:=a.names.lookup x=some .local\/a.names.lookup x=some .cell\/a.names.lookup x=some .free
def Loc(a:ax)(x:aq):Prop:=a.names.lookup x=some .local\/a.names.lookup x=some .cell
def Look(env:Env)(h:ao)(m:aq->Option aa)(x:aq)(u:aa):Prop:=
 (env.kindOf x=some .local/\m x=some u)\/((env.kindOf x=some .cell\/env.kindOf x=some .free)/\∃c,env.cells.lookup x=some c/\h.IsCell c (some u))
structure Cx.Ok(X:Cx):Prop where
 mod:Mod X.K X.mg X.base
 kind:X.env.scope.kind=.function
 glob:X.env.globals=mainGlobals
 blt:X.env.builtins=builtinsNs
 above:X.aG.heap.objs.size<=X.env.locals
 inj:∀x y c,X.env.cells.lookup x=some c->X.env.cells.lookup y=some c->x=y
 has:∀x,(X.env.kindOf x=some .cell\/X.env.kindOf x=some .free)->∃c,X.env.cells.lookup x=some c
 uA:∀x c,X.fn x=true->X.env.cells.lookup x=some c->X.aG.heap.objs.size<=c
 hd:X.calm=true->X.A.handled=none
 frames:X.A.frames=some X.stack
 sU:X.stack=X.outer\/(X.stack=X.env::X.outer/\X.env.frame=some X.env.locals)
 Bx:∀b∈X.ex,b≠X.env.locals/\∀x c,X.env.cells.lookup x=some c->c≠b
 bs:∀b o,X.base.get? b=some o->X.aG.heap.get? b=some o/\X.aK b=none
 oU:X.base.objs.size<=X.aG.heap.objs.size
 lJ:∀b o,X.base.get? b=some o->b∉X.ex
 mE:∀b∈X.ex,b∉X.fs
 dS:X.aG.heap.FunFrames X.base X.outer
 pY:∀b∈X.fs,X.aK b=none
structure Inv(X:Cx)(j4:List (ae×aw))(σ:List (Option V))(H:Hp)(s:af):Prop where
 ok:X.Ok
 os:s.os=X.aG.os
 bare:AllBare s.gens
 base:Un X.fs X.ex X.aK H X.aG.heap s.heap
 loc:∃m,s.heap.Ns X.env.locals m/\∀(i:Nat)(x:aq)(v:V),X.N[i]?=some x->σ[i]?=some (some v)->uB X.env.scope x->∃u,RelV v u/\Look X.env s.heap m x u
 cell:∀x c,X.env.cells.lookup x=some c->∃v,s.heap.IsCell c v
 free:H X.env.locals=none
 cT:∀x c,X.env.cells.lookup x=some c->H c=none
 pin:∀p∈X.pn++j4,s.heap.get? p.1=some p.2/\H p.1=none/\p.1≠X.env.locals/\p.1∉X.fs/\∀v,p.2.data≠.cell v
 aW:eV X.prog X.w H s.heap
 len:σ.length=X.N.length
section
variable{X:Cx}{j4:List (ae×aw)}{σ:List (Option V)}{H H':Hp}{s:af}{h':ao}
theorem Cx.Ok.Nz(ok:X.Ok){b:ae}{o:aw}(e:X.base.get? b=some o):b∉X.fs:=λhb=>by
 have:=(ok.dS.mem hb).1;rw[e]at this;cases this
theorem Inv.bs(I:Inv X j4 σ H s):∀b o,X.base.get? b=some o->s.heap.get? b=some o/\H b=none:=λb o e=>
 ⟨I.base.keep b o (I.ok.bs b o e).1 (I.ok.bs b o e).2 (I.ok.Nz e) (I.ok.lJ b o e),I.base.free b o (I.ok.bs b o e).1 (I.ok.bs b o e).2 (I.ok.lJ b o e)⟩
theorem Inv.bk(I:Inv X j4 σ H s):∀b o,X.base.get? b=some o->s.heap.get? b=some o:=λb o e=>(I.bs b o e).1
theorem Inv.mod(I:Inv X j4 σ H s):Mod X.K X.mg X.base:=I.ok.mod
theorem Inv.gD(I:Inv X j4 σ H s):X.K.In s.heap:=I.ok.mod.wx.keeps I.bk
theorem Inv.fr(I:Inv X j4 σ H s):∃m,Fr X.base X.env.locals s.heap m:=
 let ⟨m,hn,_⟩:=I.loc
 ⟨m,hn,I.bk,ZN I.ok.oU I.ok.above⟩
theorem Inv.lt(I:Inv X j4 σ H s):X.env.locals<s.heap.objs.size:=let ⟨_,hn,_⟩:=I.loc;hn.lt
theorem Inv.sz(I:Inv X j4 σ H s):X.aG.heap.objs.size<=s.heap.objs.size:=ZN I.ok.above (Ys I.lt)
theorem Inv.Ny(I:Inv X j4 σ H s){a:ae}(h:s.heap.objs.size<=a):a∉X.fs:=λhb=>by
 obtain⟨_,o,b,_⟩:=I.ok.dS.mem hb;exact absurd (ZJ (Zl b) (ZN I.sz h)) (YH _)
theorem Inv.uy(I:Inv X j4 σ H s):∀x c,X.env.cells.lookup x=some c->c≠X.env.locals:=λx c e z=>by
 obtain⟨v,o,b,a⟩:=I.cell x c e;obtain⟨m,⟨i,g,h,d,f,_⟩,_⟩:=I.loc;rw[z,d]at b;cases b;rw[f]at a;cases a
theorem Inv.dS(I:Inv X j4 σ H s):s.heap.FunFrames X.base X.outer:=by
 have all:∀(l:List Env),(∀b∈dO l,b∈X.fs)->X.aG.heap.FunFrames X.base l->s.heap.FunFrames X.base l:=by
  intro l
  induction l with
  |nil=>intro _ _;trivial
  |cons p r j=>
   intro d g;obtain⟨k,⟨L,o,c,m,h,f⟩,i⟩:=g;have a:L∈X.fs:=d L (by unfold dO;rw[ZY,c];exact Zw);obtain⟨q,e⟩:=I.base.slot L o h (I.ok.pY L a) a λz=>I.ok.mE L z a;exact⟨k,⟨L,_,c,m,e,f⟩,j (λb hb=>d b (by unfold dO;rw[ZY,c];exact Zn _ hb)) i⟩
 exact all X.outer (λ_ hb=>hb) I.ok.dS
theorem Inv.stack(I:Inv X j4 σ H s):s.heap.FunFrames X.base X.stack:=by
 rcases I.ok.sU with e|⟨e,b⟩
 ·rw[e];exact I.dS
 ·rw[e];obtain⟨m,a,_⟩:=I.loc;refine .cons (by rw[I.ok.kind];decide) b a ?_ I.dS;exact Heap.get?_none_of_le (ZN I.ok.oU I.ok.above)
theorem Inv.gm(I:Inv X j4 σ H s):∀b∈dO X.stack,b∈X.env.locals::X.fs:=λb hb=>by
 rcases I.ok.sU with e|⟨e,a⟩
 ·rw[e]at hb;exact Zn _ hb
 ·rw[e]at hb;unfold dO at hb;rw[ZY,a]at hb;exact hb
theorem Inv.lz(I:Inv X j4 σ H s):∀b∈dO X.stack,H b=none:=λb hb=>by
 rcases ZB.mp (I.gm b hb)with e|hb
 ·rw[e];exact I.free
 ·obtain⟨_,o,a,_⟩:=I.ok.dS.mem hb;exact I.base.free b o a (I.ok.pY b hb) λz=>I.ok.mE b z hb
theorem Inv.step{g':Array GenState}{t':Nat}{d':Drawn}{ch:List ae}(I:Inv X j4 σ H s)
  (B:∀b∈ch,(b∈X.ex\/X.aG.heap.objs.size<=b)/\b≠X.env.locals/\(∀x c,X.env.cells.lookup x=some c->c≠b)/\∀p∈X.pn++j4,p.1≠b)
  (keep:∀b o,b≠X.env.locals->b∉X.fs->b∉ch->s.heap.get? b=some o->H b=none->h'.get? b=some o)
  (slot:∀b o,b≠X.env.locals->b∈X.fs->b∉ch->s.heap.get? b=some o->H b=none->∃G,h'.get? b=some {o with slots:=G}) (free:∀b o,b∉ch->s.heap.get? b=some o->H b=none->H' b=none)
  (there:∀b o,b∉ch->s.heap.get? b=some o->∃A,h'.get? b=some A)
  (cC:∀b h,H b=some (.tup h)->H' b=some (.tup h)) (gq:∀b o u,H b=some (.ic o u)->H' b=some (.ic o u)) (gG:∀b E,H b=some (.uG E)->∃more,H' b=some (.uG (E++more)))
  (S:∀m,s.heap.Ns X.env.locals m->h'.Ns X.env.locals m) (Q:eV X.prog X.w H' h') (N:AllBare g'):
  Inv X j4 σ H' {s with heap:=h',gens:=g',drawn:=d',toks:=t'}:=by
 have C:∀b o,X.aG.heap.get? b=some o->b≠X.env.locals:=λb o e=>Zz (ZJ (Zl e) I.ok.above);have D:∀b o,X.aG.heap.get? b=some o->b∉X.ex->b∉ch:=λb o e a hb=>by
  rcases(B b hb).1 with z|z
  ·exact a z
  ·exact absurd (ZJ (Zl e) z) (YH _)
 have f:∀x c,X.env.cells.lookup x=some c->∀v,s.heap.IsCell c v->h'.IsCell c v:=λx c e v ⟨o,j,F⟩=>by
  have y:c∉ch:=λz=>(B c z).2.2.1 x c e rfl;by_cases M:c∈X.fs
  ·obtain⟨G,q⟩:=slot c o (I.uy x c e) M y j (I.cT x c e);exact⟨_,q,F⟩
  ·exact⟨o,keep c o (I.uy x c e) M y j (I.cT x c e),F⟩
 refine⟨I.ok,I.os,N,⟨λb o e n hb a=>?_,λb o e n hb a=>?_,λb o e n a=>?_,λb o e a=>?_,λb h e=>cC b h (I.base.cC b h e),λb o h e=>gq b o h (I.base.gq b o h e),λb E e=>?_⟩,?_,λx c e=>?_,?_,λx c e=>?_,λp K=>?_,Q,I.len⟩
 ·exact keep b o (C b o e) hb (D b o e a) (I.base.keep b o e n hb a) (I.base.free b o e n a)
 ·obtain⟨G,g⟩:=I.base.slot b o e n hb a;obtain⟨T,w⟩:=slot b _ (C b o e) hb (D b o e a) g (I.base.free b o e n a);exact⟨T,w⟩
 ·obtain⟨A,g⟩:=I.base.there b o e a;exact free b A (D b o e a) g (I.base.free b o e n a)
 ·obtain⟨A,g⟩:=I.base.there b o e a;exact there b A (D b o e a) g
 ·obtain⟨U,g⟩:=I.base.gG b E e;obtain⟨P,w⟩:=gG b _ g;exact⟨U++P,by rw[w,Array.append_assoc]⟩
 ·obtain⟨m,O,V⟩:=I.loc;refine⟨m,S m O,λi x v g w R=>?_⟩;obtain⟨u,r,l⟩:=V i x v g w R;refine⟨u,r,?_⟩;rcases l with l|⟨k,c,e,z⟩
  ·exact .inl l
  ·exact .inr ⟨k,c,e,f x c e _ z⟩
 ·obtain⟨v,z⟩:=I.cell x c e;exact⟨v,f x c e v z⟩
 ·obtain⟨m,⟨o,_,_,j,_⟩,_⟩:=I.loc;exact free _ o (λz=>(B _ z).2.1 rfl) j I.free
 ·obtain⟨v,o,j,F⟩:=I.cell x c e;exact free c o (λz=>(B c z).2.2.1 x c e rfl) j (I.cT x c e)
 ·obtain⟨e,n,J,L,d⟩:=I.pin p K;have y:p.1∉ch:=λz=>(B p.1 z).2.2.2 p K rfl;exact⟨keep p.1 p.2 J L y e n,free p.1 p.2 y e n,J,L,d⟩
theorem Inv.un{t':Nat}(I:Inv X j4 σ H s)(u:Un X.fs [] H H' s.heap h')(g:eV X.prog X.w H' h'):Inv X j4 σ H' {s with heap:=h',toks:=t'}:=by
 obtain⟨m,⟨o,k,l,d,r⟩,_⟩:=id I.loc;obtain⟨v,h⟩:=u.any d I.free 'b';exact I.step (g':=s.gens) (d':=s.drawn) (ch:=[]) (λ_ z=>nomatch z) (λb o _ hb _ e n=>u.keep b o e n hb 'b') (λb o _ hb _ e n=>u.slot b o e n hb 'b') (λb o _ e n=>u.free b o e n 'b') (λb o _ e=>u.there b o e 'b') u.cC u.gq u.gG (λq f=>by
  obtain⟨p,a,j,c,i⟩:=f;rw[d]at c;cases c;exact⟨_,a,j,h,i⟩) g I.bare
theorem Inv.call{g':Array GenState}{t':Nat}{d':Drawn}{ch:List ae}(I:Inv X j4 σ H s)(u:Un (dO X.stack) ch H H' s.heap h')(q:eV X.prog X.w H' h')(k:AllBare g')
  (i:∀b∈ch,(b∈X.ex\/X.aG.heap.objs.size<=b)/\b≠X.env.locals/\(∀x c,X.env.cells.lookup x=some c->c≠b)/\∀p∈X.pn++j4,p.1≠b):
  Inv X j4 σ H' {s with heap:=h',gens:=g',drawn:=d',toks:=t'}:=by
 obtain⟨m,⟨o,B,C,h,r⟩,_⟩:=id I.loc;obtain⟨w,d⟩:=u.any h I.free λz=>(i _ z).2.1 rfl;exact I.step (ch:=ch) i (λb o d hb a e n=>u.keep b o e n (λz=>(ZB.mp (I.gm b z)).elim d hb) a) (λb o _ _ a e n=>u.any e n a) (λb o a e n=>u.free b o e n a) (λb o a e=>u.there b o e a) u.cC u.gq u.gG (λA j=>by
  obtain⟨y,f,l,g,v⟩:=j;rw[h]at g;cases g;exact⟨_,f,l,d,v⟩) q k
theorem Inv.turned{t':Nat}{it:ae}(I:Inv X j4 σ H s)(k:∀b o,b≠it->s.heap.get? b=some o->h'.get? b=some o)(i:H it=none)(d:it≠X.env.locals)
  (h1:it∈X.ex\/X.aG.heap.objs.size<=it) (h2:∀x c,X.env.cells.lookup x=some c->c≠it) (j:∀p∈X.pn++j4,p.1≠it):Inv X j4 σ H {s with heap:=h',toks:=t'}:=by
 have f:∀b u,H b=some u->b≠it:=λb u e z=>by rw[z,i]at e;cases e
 refine I.step (g':=s.gens) (d':=s.drawn) (ch:=[it]) (λb hb=>?_) (λb o _ _ a e _=>k b o (λz=>a (by simp[z])) e) (λb o _ _ a e _=>⟨o.slots,k b o (λz=>a (by simp[z])) e⟩) (λ_ _ _ _ n=>n)
  (λb o a e=>⟨o,k b o (λz=>a (by simp[z])) e⟩) (λ_ _ e=>e) (λ_ _ _ e=>e) (λb y e=>⟨#[],by rw[e];simp⟩) (λm g=>?_) (λb u e=>?_) I.bare
 ·have e:b=it:=by simpa using hb
  subst e;exact⟨h1,d,h2,j⟩
 ·obtain⟨o,l,w,h,r⟩:=g;exact⟨o,l,w,k _ o (Z2 d) h,r⟩
 ·refine(I.aW b u e).fM (λc v a q=>k c v ?_ q) (λ_ q=>q) λ_ _ q=>q;rcases a with z|z
  ·rw[z];exact f b u e
  ·exact f c _ z
theorem Inv.tok(I:Inv X j4 σ H s)(t:Nat):Inv X j4 σ H {s with toks:=t}:=I.un (h':=s.heap) (t':=t) Un.refl I.aW
theorem Inv.kept{t':Nat}(I:Inv X j4 σ H s)(k:∀b u,s.heap.get? b=some u->h'.get? b=some u):Inv X j4 σ H {s with heap:=h',toks:=t'}:=I.un (Un.kept k) (I.aW.kept k)
theorem Inv.laid{a:ae}{o:HO}{t':Nat}(I:Inv X j4 σ H s)(k:∀b u,s.heap.get? b=some u->h'.get? b=some u)(c:s.heap.objs.size<=a)(new:bV X.prog X.w (upd H a o) h' a o):
  Inv X j4 σ (upd H a o) {s with heap:=h',toks:=t'}:=I.un (Un.laid k c (I.aW.fresh c)) (I.aW.laid k c new)
theorem Inv.write{x e:ae}{o:HO}{t':Nat}(I:Inv X j4 σ H s)(c:Gg (H x))(a:e=x\/H e=some (.own x))(k:∀b u,b≠e->s.heap.get? b=some u->h'.get? b=some u)(d:∃u,h'.get? e=some u)
  (new:bV X.prog X.w (upd H x o) h' x o):Inv X j4 σ (upd H x o) {s with heap:=h',toks:=t'}:=I.un (Un.write c a k d) (I.aW.write c a k d new)
theorem Inv.weak{σ':List (Option V)}(I:Inv X j4 σ H s)(b:σ'.length=σ.length)(w:∀(i:Nat) v,σ'[i]?=some (some v)->σ[i]?=some (some v)):Inv X j4 σ' H s:=
 ⟨I.ok,I.os,I.bare,I.base,let ⟨m,hn,xb⟩:=I.loc;⟨m,hn,λi x v c a d=>xb i x v c (w i v a) d⟩,I.cell,I.free,I.cT,I.pin,I.aW,b.trans I.len⟩
theorem Inv.oI{a:List (ae×aw)}(I:Inv X j4 σ H s)(h:∀p∈a,s.heap.get? p.1=some p.2/\H p.1=none/\p.1≠X.env.locals/\p.1∉X.fs/\∀v,p.2.data≠.cell v):Inv X a σ H s:=
 ⟨I.ok,I.os,I.bare,I.base,I.loc,I.cell,I.free,I.cT,λp b=>(Z8.mp b).elim (λz=>I.pin p (YO _ z)) (h p),I.aW,I.len⟩
theorem MS{N:List aq}(c:N.Nodup){i j:Nat}{x:aq}(a:N[i]?=some x)(b:N[j]?=some x):i=j:=by
 obtain⟨h1,e⟩:=cx a;obtain⟨h2,d⟩:=cx b;exact(Vl c).mp (e.trans d.symm)
theorem q43{M:Model}{A:au}{E:aa->af->Prop}{i:Nat}{x:aq}{v:V}{u:aa}{Q:Unit->af->Prop}(I:Inv X j4 σ H s)(hN:X.N.Nodup)(K:X.N[i]?=some x)(B:Loc X.env.scope x)(r:RelV v u)
  (h:∀S,Inv X j4 (σ.set i (some v)) H S->(∃a,Heap.SameBut a s.heap S.heap/\(a=X.env.locals\/X.env.cells.lookup x=some a))->Q () S) (hf:X.fn x=true\/X.env.scope.names.lookup x=some .local:=by first|exact .inl rfl|exact .inr rfl|assumption):ag M A (storeName X.env x u) Q E s:=by
 obtain⟨m,W,hl⟩:=id I.loc;have rN:(X.env.scope.kind==.class||(X.env.scope.kind==.module&&X.env.locals != X.env.globals))=false:=by rw[I.ok.kind];rfl
 have EV:i<σ.length:=by rw[I.len];exact(cx K).1
 have uy:=I.uy;have g:∀{a:ae}{h':ao},(∃o,s.heap.get? a=some o/\H a=none)->Heap.SameBut a s.heap h'->eV X.prog X.w H h':=λ{a h'} ha f b ob e=>by
  obtain⟨_,_,xf⟩:=ha;refine(I.aW b ob e).fM (λc L w q=>(f.2 c ?_).trans q) (λ_ q=>q) λ_ _ q=>q;rintro rfl;rcases w with rfl|w
  ·rw[xf]at e;cases e
  ·rw[xf]at w;cases w
 rcases B with D|D
 ·refine wpAny_storeName_local D W (λh' O6 f=>?_) rN;obtain⟨oL,_,_,P,_⟩:=id W;refine h _ ⟨I.ok,I.os,I.bare,⟨λb o e n hb B=>?_,λb o e n hb B=>?_,I.base.free,λb o e B=>?_,I.base.cC,I.base.gq,I.base.gG⟩,⟨_,O6,λj y v' l C e3=>?_⟩,λy c e=>?_,I.free,I.cT,λp U=>?_,g ⟨oL,P,I.free⟩ f,by simpa using I.len⟩ ⟨_,f,.inl rfl⟩
  ·exact(f.2 b (Zz (ZJ (Zl e) I.ok.above))).trans (I.base.keep b o e n hb B)
  ·obtain⟨R,l⟩:=I.base.slot b o e n hb B;exact⟨R,(f.2 b (Zz (ZJ (Zl e) I.ok.above))).trans l⟩
  ·obtain⟨T,l⟩:=I.base.there b o e B;exact⟨T,(f.2 b (Zz (ZJ (Zl e) I.ok.above))).trans l⟩
  ·by_cases F:j=i
   ·subst F;rw[K]at l;cases l;rw[Xx EV]at C;cases C;exact⟨u,r,.inl ⟨D,by simp⟩⟩
   ·rw[WL (Z2 F)]at C;obtain⟨Y,r',q⟩:=hl j y v' l C e3;refine⟨Y,r',?_⟩;rcases q with⟨k,e⟩|⟨k,c,e,z⟩
    ·refine .inl ⟨k,?_⟩;have:y≠x:=λe=>F (MS hN l (e▸K));simp[this,e]
    ·exact .inr ⟨k,c,e,z.sameBut f (uy y c e)⟩
  ·obtain⟨L,z⟩:=I.cell y c e;exact⟨L,z.sameBut f (uy y c e)⟩
  ·obtain⟨e,n,N,Z,d⟩:=I.pin p U;exact⟨(f.2 p.1 N).trans e,n,N,Z,d⟩
 ·have PB:X.fn x=true:=by
   rcases hf with z|z
   ·exact z
   ·rw[z]at D;cases D
  obtain⟨c,w⟩:=I.ok.has x (.inl D);obtain⟨L,z⟩:=I.cell x c w;refine wpAny_storeName_cell I.ok.kind D w z (λh' G f=>?_);obtain⟨oc,Jn,OT⟩:=id z;refine h {s with heap:=h'} ⟨I.ok,I.os,I.bare,⟨λb o e n hb B=>?_,λb o e n hb B=>?_,I.base.free,λb o e B=>?_,I.base.cC,I.base.gq,I.base.gG⟩,⟨m,W.sameBut f (Z2 (uy x c w)),λj y v' l C e3=>?_⟩,λy O e=>?_,I.free,I.cT,λp U=>?_,g ⟨oc,Jn,I.cT x c w⟩ f,by simpa using I.len⟩ ⟨c,f,.inr w⟩
  ·exact(f.2 b (Zz (ZJ (Zl e) (I.ok.uA x c PB w)))).trans (I.base.keep b o e n hb B)
  ·obtain⟨R,l⟩:=I.base.slot b o e n hb B;exact⟨R,(f.2 b (Zz (ZJ (Zl e) (I.ok.uA x c PB w)))).trans l⟩
  ·obtain⟨T,l⟩:=I.base.there b o e B;exact⟨T,(f.2 b (Zz (ZJ (Zl e) (I.ok.uA x c PB w)))).trans l⟩
  ·by_cases F:j=i
   ·subst F;rw[K]at l;cases l;rw[Xx EV]at C;cases C;exact⟨u,r,.inr ⟨.inl D,c,w,G⟩⟩
   ·rw[WL (Z2 F)]at C;obtain⟨Y,r',q⟩:=hl j y v' l C e3;refine⟨Y,r',?_⟩;rcases q with q|⟨k,O,e,z'⟩
    ·exact .inl q
    ·refine .inr ⟨k,O,e,z'.sameBut f ?_⟩;rintro rfl;exact F (MS hN l (I.ok.inj _ _ _ e w▸K))
  ·by_cases J:O=c
   ·subst J;exact⟨_,G⟩
   ·obtain⟨w2,z2⟩:=I.cell y O e;exact⟨w2,z2.sameBut f J⟩
  ·obtain⟨e,n,N,Z,d⟩:=I.pin p U;refine⟨(f.2 p.1 ?_).trans e,n,N,Z,d⟩;intro q;rw[q,Jn]at e;have q':oc=p.2:=Zu e;exact d L (by rw[<- q'];exact OT)
theorem yh{M:Model}{A:au}{E:aa->af->Prop}{i:Nat}{x:aq}{v:V}{u:aa}{Q:Unit->af->Prop}(I:Inv X j4 σ H s)(b:X.N.Nodup)(e:X.N[i]?=some x)(d:Loc X.env.scope x)(r:RelV v u)
  (h:∀a,Inv X j4 (σ.set i (some v)) H a->Q () a) (f:X.fn x=true\/X.env.scope.names.lookup x=some .local:=by first|exact .inl rfl|exact .inr rfl|assumption):ag M A (storeName X.env x u) Q E s:=
 q43 I b e d r (λa c _=>h a c) f
theorem Inv.xp{s':af}{ch:List ae}(I:Inv X j4 σ H s)(d:s'.os=s.os)(u:Un (dO X.stack) ch H H' s.heap s'.heap)(a:eV X.prog X.w H' s'.heap)(h:AllBare s'.gens)
  (f:∀b∈ch,(b∈X.ex\/X.aG.heap.objs.size<=b)/\b≠X.env.locals/\(∀x c,X.env.cells.lookup x=some c->c≠b)/\∀p∈X.pn++j4,p.1≠b):Inv X j4 σ H' s':=by
 obtain⟨h',g',d',t',g⟩:=s';have e:g=s.os:=d;subst e;exact I.call (g':=g') (t':=t') (d':=d') u a h f
end
abbrev XK:=aa->Option ae->Hp->Prop
abbrev St:=List (Option V)
abbrev VK:=V->Hp->Prop
abbrev TE:=St->Hp->VK->Prop
abbrev TT:=St->Hp->(Bool->Hp->Prop)->Prop
abbrev TA:=St->Hp->(List V->Hp->Prop)->Prop
structure Ends where
 nx:St->Hp->Prop
 rt:VK
 bk:St->Hp->Prop:=λ_ _=>False
 ct:St->Hp->Prop:=λ_ _=>False
abbrev TS:=Ends->St->Hp->Prop
def EP(X:Cx)(b:List (ae×aw))(σ:St)(Q:VK)(u:aa)(s':af):Prop:=∃v a,Inv X b σ a s'/\RelV v u/\Q v a
def TP(X:Cx)(c:List (ae×aw))(σ:St)(Q:Bool->Hp->Prop)(b:Bool)(s':af):Prop:=∃a,Inv X c σ a s'/\Q b a
def AP(X:Cx)(c:List (ae×aw))(σ:St)(Q:List V->Hp->Prop)(us:List aa)(s':af):Prop:=∃a b,Inv X c σ b s'/\Vals a us/\Q a b
def SP(X:Cx)(c:List (ae×aw))(D:Ends)(f:Flow)(s':af):Prop:=
 match f with
 |.next=>∃a b,Inv X c a b s'/\D.nx a b
 |.brk=>∃a b,Inv X c a b s'/\D.bk a b
 |.cont=>∃a b,Inv X c a b s'/\D.ct a b
 |.ret u=>∃v a b,Inv X c a b s'/\RelV v u/\D.rt v b
def PE(X:Cx)(e:ar)(t:TE):Prop:=
 ∀(b:List (ae×aw))(s:af)(a:St)(H:Hp)(Q:VK),Inv X b a H s->t a H Q->ag (aj X.prog X.w) X.A (eval e X.env) (EP X b a Q) X.xe s
def PT(X:Cx)(e:ar)(t:TT):Prop:=
 ∀(b:List (ae×aw))(s:af)(a:St)(H:Hp)(Q:Bool->Hp->Prop),Inv X b a H s->t a H Q->ag (aj X.prog X.w) X.A (isTrue e X.env (eval e X.env)) (TP X b a Q) X.xe s
def PW(X:Cx)(e:ar)(t:TT):Prop:=
 ∀(whole:Sem aa)(b:List (ae×aw))(s:af)(a:St)(H:Hp)(Q:Bool->Hp->Prop),Inv X b a H s->t a H Q->ag (aj X.prog X.w) X.A (isTrue e X.env whole) (TP X b a Q) X.xe s
theorem PW.pt{X:Cx}{e:ar}{t:TT}(h:PW X e t):PT X e t:=h _
def PA(X:Cx)(es:List ar)(t:TA):Prop:=
 ∀(pos:aA)(b:List (ae×aw))(s:af)(a:St)(H:Hp)(Q:List V->Hp->Prop),Inv X b a H s->t a H Q->ag (aj X.prog X.w) X.A (spliced (backTo pos (starEach es X.env))) (AP X b a Q) X.xe s
def PS(X:Cx)(st:ay)(t:TS):Prop:=
 ∀(b:List (ae×aw))(s:af)(a:St)(H:Hp)(D:Ends),Inv X b a H s->t D a H->ag (aj X.prog X.w) X.A (exec st X.env) (SP X b D) X.xe s
def jj(X:Cx)(st:List ay)(t:TS):Prop:=
 ∀(b:List (ae×aw))(s:af)(a:St)(H:Hp)(D:Ends),Inv X b a H s->t D a H->ag (aj X.prog X.w) X.A (execs st X.env) (SP X b D) X.xe s
theorem bC{b:Type}{t:Sem b}{Q c:b->af->Prop}{M:Model}{A:au}{E:aa->af->Prop}{s:af}(h:ag M A t Q E s)(d:∀a s,Q a s->c a s):ag M A t c E s:=Yz h d λ_ _ x=>x
section
variable{X:Cx}
inductive BS(i:Nat)(σ:St)(H:Hp)(Q:VK):Prop
 |mk(v:_)(e0:σ[i]?=some (some v))(e1:Q v H)
def eh(i:Nat):TE:=λa H Q=>BS i a H Q
def tC(v:V):TE:=λ_ H Q=>Q v H
theorem xF3{i:Nat}{x:aq}{f:aA}(p:X.N[i]?=some x)(B:uB X.env.scope x)(d:(x==("__debug__":aq))=false:=by decide)(A:(x==("__classdict__":aq))=false:=by decide):PE X (.Name x f) (eh i):=by
 intro y s q H Q I h;obtain⟨v,e,h⟩:=h;obtain⟨m,w,C⟩:=I.loc;obtain⟨u,r,l⟩:=C i x v p e B;have b:EP X y q Q u s:=⟨v,H,I,r,h⟩;rcases l with⟨a,k⟩|⟨a,c,j,g⟩
 ·exact wpAny_Name (wpAny_loadName_local I.ok.kind a w k b) d
 ·rcases a with a|a
  ·exact wpAny_Name (wpAny_loadName_cell I.ok.kind a j g b) d
  ·exact wpAny_Name (wpAny_loadName_free I.ok.kind a j g b A) d
theorem aR {i j pos}:PE X (.Constant (.int i) j pos) (tC (.int i)):=λ_ _ _ H _ I h=>wpAny_Constant_int ⟨.int i,H,I.tok _,⟨_,rfl⟩,h⟩
theorem js {b j pos}:PE X (.Constant (.bool b) j pos) (tC (.bl b)):=λ_ _ _ H _ I h=>Constant_bool ⟨.bl b,H,I,rfl,h⟩
theorem De {j pos}:PE X (.Constant .none j pos) (tC .cA):=λ_ _ _ H _ I h=>Constant_none ⟨.cA,H,I,rfl,h⟩
theorem nE {x j pos}:PE X (.Constant (.str x) j pos) (tC (.str x)):=λ_ _ _ H _ I h=>Calls.Constant_str ⟨.str x,H,I.tok _,⟨_,rfl⟩,h⟩
def Gl(X:Cx)(x:aq):Prop:=X.env.kindOf x=some .globalImplicit
theorem ye{E:aa->af->Prop}{e:List (ae×aw)}{s:af}{σ:St}{H:Hp}{x:aq}{u:aa}{a:aA}{Q:aa->af->Prop}(I:Inv X e σ H s)(d:Gl X x)(b:X.mg x=some u)(h:Q u s)
  (c:(x==("__debug__":aq))=false:=by decide):ag (aj X.prog X.w) X.A (eval (.Name x a) X.env) Q E s:=
 Calls.Name_function_global I.ok.kind d (Calls.loadGlobal_global (by rw[I.ok.glob];exact I.mod.glob.keeps I.bk) b h) c
theorem A4{E:aa->af->Prop}{g:List (ae×aw)}{s:af}{σ:St}{H:Hp}{x:aq}{u:aa}{a:aA}{Q:aa->af->Prop}(I:Inv X g σ H s)(f:Gl X x)(b:X.mg x=none)(e:bootBuiltins x=some u)(h:Q u s)
  (d:x ≠ "__name__":=by decide) (c:(x==("__debug__":aq))=false:=by decide):ag (aj X.prog X.w) X.A (eval (.Name x a) X.env) Q E s:=by
 obtain⟨i,h1,h2⟩:=I.mod.blt;exact Calls.Name_function_global I.ok.kind f (Calls.loadGlobal_builtin (by rw[I.ok.glob];exact I.mod.glob.keeps I.bk) b (by rw[I.ok.blt];exact h1.keeps I.bk) ((h2 x d).trans e) h) c
theorem cX{x:aq}{v:V}{u:aa}{a:aA}(d:Gl X x)(b:X.mg x=some u)(r:RelV v u)(c:(x==("__debug__":aq))=false:=by decide):PE X (.Name x a) (tC v):=
 λ_ _ _ H _ I h=>ye I d b ⟨v,H,I,r,h⟩ c
theorem pT{x:aq}{v:V}{u:aa}{a:aA}(f:Gl X x)(b:X.mg x=none)(e:bootBuiltins x=some u)(r:RelV v u)(d:x ≠ "__name__":=by decide)(c:(x==("__debug__":aq))=false:=by decide):PE X (.Name x a) (tC v):=
 λ_ _ _ H _ I h=>A4 I f b e ⟨v,H,I,r,h⟩ d c
variable{a b:ar}{ta tb:TE}{pos:aA}
def PC(X:Cx)(f:CmpOp)(a b:ar)(t:TE):Prop:=
 ∀(d:List (ae×aw))(s:af)(c:St)(H:Hp)(Q:VK),Inv X d c H s->t c H Q ->
  ag (aj X.prog X.w) X.A (eval a X.env) (λv e=>ag (aj X.prog X.w) X.A (eval b X.env) (λu g=>ag (aj X.prog X.w) X.A (compareOp f v u) (EP X d c Q) X.xe g) X.xe e) X.xe s
inductive tB_(Q:Bool->Hp->Prop)(x:V)(H1:Hp):Prop
 |mk(c:_)(e0:x=.bl c)(e1:Q c H1)
def tB(t:TE):TT:=λd H Q=>t d H λx c=>tB_ Q x c
theorem uZ{e:CmpOp}{t:TE}(h:PC X e a b t)(h1:behindInMarks e b=false:=by first|exact DJ _ 'c' 'c'|rfl):PT X (.Compare a [e] [b] pos) (tB t):=by
 intro g s f H Q I l;refine wpAny_isTrue_Compare1 (bC (h g s f H _ I l) λv p h1=>bC h1 λu w h2=>bC h2 λc r ⟨x,i,k,m,j⟩=>?_) h1;obtain⟨d,rfl,q⟩:=j;cases m;exact YT ⟨i,k,q⟩
theorem il{e:ar}{t:TE}(h:PE X e t)(f:∀c,isTrue e X.env c=(do let v <- c;standAt e.pos;holding [v] (truthy v)):=by intro _;rfl):PT X e (tB t):=by
 intro p s k H Q I j;refine isTrue_plain (bC (h p s k H _ I j) λv r ⟨x,g,m,l,i⟩=>?_) (f _);obtain⟨d,rfl,q⟩:=i;cases l;exact YT ⟨g,m,q⟩
variable{tA Hi:TT}{rest:List ar}
def Lh(t u:TT):TT:=λe H Q=>t e H λc d=>if c=true then u e d Q else Q false d
def tOr(t u:TT):TT:=λe H Q=>t e H λc d=>if c=true then Q true d else u e d Q
def Lc(t:TT):TT:=λe H Q=>t e H λc d=>Q (!c) d
theorem V7(f:PT X a tA):PW X (.BoolOp .And [a] pos) tA:=by
 intro j g s d H Q I h;refine isTrue_and (bC (f g s d H Q I h) λc i e=>?_);cases c with
 |true=>exact isTrue_and_nil e
 |false=>exact e
theorem m7(f:PT X a tA):PW X (.BoolOp .Or [a] pos) tA:=by
 intro j g s d H Q I h;refine isTrue_or (bC (f g s d H Q I h) λc i e=>?_);cases c with
 |false=>exact isTrue_or_nil e
 |true=>exact e
theorem Sb(l:PT X a tA)(hb:PW X (.BoolOp .And (b::rest) pos) Hi):PW X (.BoolOp .And (a::b::rest) pos) (Lh tA Hi):=by
 intro k i s f H Q I h;refine isTrue_and (bC (l i s f H _ I h) λc j ⟨d,g,e⟩=>?_);cases c with
 |true=>exact hb k i j f d Q g e
 |false=>exact⟨d,g,e⟩
theorem jr(l:PT X a tA)(hb:PW X (.BoolOp .Or (b::rest) pos) Hi):PW X (.BoolOp .Or (a::b::rest) pos) (tOr tA Hi):=by
 intro k i s f H Q I h;refine isTrue_or (bC (l i s f H _ I h) λc j ⟨d,g,e⟩=>?_);cases c with
 |true=>exact⟨d,g,e⟩
 |false=>exact hb k i j f d Q g e
theorem i_(f:PT X a tA):PT X (.UnaryOp .Not a pos) (Lc tA):=by
 intro g s e H Q I h;exact isTrue_not (f g s e H (λc d=>Q (!c) d) I h)
inductive xD(tb:TE)(σ:St)(Q:VK)(x:V)(H1:Hp):Prop
 |mk(c:_)(e0:x=.bl c)(e1:if c=true then tb σ H1 Q else Q (.bl false) H1)
def xM4(ta tb:TE):TE:=λc H Q=>ta c H λx d=>xD tb c Q x d
inductive xA(Q:VK)(x:V)(H1:Hp):Prop
 |mk(c:_)(e0:x=.bl c)(e1:Q (.bl (!c)) H1)
def xM5(ta:TE):TE:=λd H Q=>ta d H λx c=>xA Q x c
theorem sy {op}{t:TE}(h:PE X a t):PE X (.BoolOp op [a] pos) t:=λe s d H Q I c=>BoolOp_one (h e s d H Q I c)
theorem su(l:PE X a ta)(hb:PE X (.BoolOp .And (b::rest) pos) tb):PE X (.BoolOp .And (a::b::rest) pos) (xM4 ta tb):=by
 intro i s f H Q I h;refine BoolOp_and (bC (l i s f H _ I h) λv j ⟨x,e,g,k,d⟩=>?_);obtain⟨c,rfl,d⟩:=d;cases k;refine YT ?_;cases c with
 |true=>exact hb i j f e Q g d
 |false=>exact⟨.bl false,e,g,rfl,d⟩
theorem Sa(j:PE X a ta):PE X (.UnaryOp .Not a pos) (xM5 ta):=by
 intro k s g H Q I h;refine UnaryOp_ (bC (j k s g H _ I h) λv l ⟨x,e,i,f,d⟩=>?_);obtain⟨c,rfl,d⟩:=d;cases f;exact not_of (YT ⟨.bl (!c),e,i,rfl,d⟩)
def tIf(t:TT)(ta tb:TE):TE:=λd H Q=>t d H λc e=>if c=true then ta d e Q else tb d e Q
theorem xj3{c:ar}(hc:PT X c tA)(l:PE X a ta)(hb:PE X b tb):PE X (.IfExp c a b pos) (tIf tA ta tb):=by
 intro f s e H Q I h;refine wpAny_IfExp (bC (hc f s e H _ I h) λd i ⟨g,k,j⟩=>?_);cases d with
 |true=>exact l f i e g Q k j
 |false=>exact hb f i e g Q k j
end
def bY(K:PySem.W.Frag)(H:Hp)(a:ae)(xs:List V):Prop:=
 Rd H a (.lst xs) \/
  ∃(o:aw)(b:Array aa)(n:Nat),K.lookup a=some o/\o.cls=.type "list" /\ o.dict=none/\o.data=.seq b n/\b.size<=sizeLine/\Vals xs b.toList
def aQ(K:PySem.W.Frag)(H:Hp)(a:ae)(xs:List V):Prop:=
 Rd H a (.tup xs) \/
  ∃(o:aw)(b:Array aa)(n:Nat),K.lookup a=some o/\o.cls=.type "tuple" /\ o.data=.seq b n/\b.size<=sizeLine/\Vals xs b.toList
def QX:aa->Option V
 |.none=>some .cA
 |.bool b=>some (.bl b)
 |.int i _=>some (.int i)
 |.str x _=>some (.str x)
 |.bytes b _=>some (.p4 b)
 |.float b _=>some (.zT b)
 |.ref a=>some (.ref a)
 |.type n=>some (.ty n)
 |_=>none
theorem RelV.abs{x:V}{u:aa}(r:RelV x u):QX u=some x:=by
 cases x with
 |cA=>cases r;rfl
 |bl _=>cases r;rfl
 |int _=>obtain⟨t,rfl⟩:=r;rfl
 |str _=>obtain⟨t,rfl⟩:=r;rfl
 |p4 _=>obtain⟨t,rfl⟩:=r;rfl
 |zT _=>obtain⟨t,rfl⟩:=r;rfl
 |ref _=>cases r;rfl
 |ty _=>cases r;rfl
theorem RelV.inj{x y:V}{u:aa}(r:RelV x u)(q:RelV y u):x=y:=Zu (r.abs.symm.trans q.abs)
theorem Vals.inj:∀{c b:List V}{a:List aa},Vals c a->Vals b a->c=b
 |_,_,_,.nil,.nil=>rfl
 |_,_,_,.cons r t,.cons e d=>by rw[r.inj e,Vals.inj t d]
section
variable{X:Cx}{j4:List (ae×aw)}{σ:St}{H:Hp}{s:af}{a:ae}{xs ys:List V}
theorem bY.of{K:PySem.W.Frag}(h:H a=some (.lst xs)):bY K H a xs:=.inl (.inl h)
theorem aQ.of{K:PySem.W.Frag}(h:H a=some (.tup xs)):aQ K H a xs:=.inl (.inl h)
theorem Inv.list(I:Inv X j4 σ H s)(h:bY X.K H a xs):∃b:List aa,Vals xs b/\PlainL s.heap a b.toArray/\xs.length<=sizeLine:=by
 rcases h with h|⟨o,b,n,d,f,c,g,i,r⟩
 ·obtain⟨z,b,n,r,e⟩:=h.ok I.aW;exact⟨b,r,⟨_,n,e,rfl,rfl,rfl⟩,z⟩
 ·refine⟨b.toList,r,⟨o,n,I.gD a o d,f,c,by simpa using g⟩,?_⟩;have e:=r.length;simp only[Yg]at e;lia
theorem Inv.tuple(I:Inv X j4 σ H s)(h:aQ X.K H a xs):∃b:List aa,Vals xs b/\IsTup s.heap a b.toArray/\xs.length<=sizeLine:=by
 rcases h with h|⟨o,b,n,c,d,f,g,r⟩
 ·obtain⟨z,b,r,p⟩:=h.ok I.aW;exact⟨b,r,p,z⟩
 ·refine⟨b.toList,r,⟨o,I.gD a o c,d,n,by simpa using f⟩,?_⟩;have e:=r.length;simp only[Yg]at e;lia
theorem Inv.rh(I:Inv X j4 σ H s)(h:bY X.K H a xs)(h':bY X.K H a ys):xs=ys:=by
 obtain⟨g,r,⟨o,n,e,_,_,d⟩,_⟩:=I.list h;obtain⟨b,i,⟨j,k,c,_,_,f⟩,_⟩:=I.list h';rw[e]at c;cases c;rw[d]at f;injection f with d1 _
 have:g=b:=by simpa using Yo Array.toList d1
 subst this;exact r.inj i
theorem Inv.fH(I:Inv X j4 σ H s)(h:aQ X.K H a xs)(h':aQ X.K H a ys):xs=ys:=by
 obtain⟨g,r,⟨o,e,_,n,d⟩,_⟩:=I.tuple h;obtain⟨b,i,⟨j,c,_,k,f⟩,_⟩:=I.tuple h';rw[e]at c;cases c;rw[d]at f;injection f with d1 _
 have:g=b:=by simpa using Yo Array.toList d1
 subst this;exact r.inj i
end
abbrev Cx.jk(X:Cx)(E:aa->af->Prop):Cx:={X with xe:=E}
abbrev Cx.my(X:Cx):Cx:=X.jk λ_ _=>False
theorem Cx.Ok.jk{X:Cx}(ok:X.Ok)(E:aa->af->Prop):(X.jk E).Ok:=
 ⟨ok.mod,ok.kind,ok.glob,ok.blt,ok.above,ok.inj,ok.has,ok.uA,ok.hd,ok.frames,ok.sU,ok.Bx,ok.bs,ok.oU,ok.lJ,ok.mE,ok.dS,ok.pY⟩
theorem Cx.Ok.fg{X:Cx}{E:aa->af->Prop}(ok:(X.jk E).Ok):X.Ok:=
 ⟨ok.mod,ok.kind,ok.glob,ok.blt,ok.above,ok.inj,ok.has,ok.uA,ok.hd,ok.frames,ok.sU,ok.Bx,ok.bs,ok.oU,ok.lJ,ok.mE,ok.dS,ok.pY⟩
section
variable{X:Cx}{j4:List (ae×aw)}{σ:St}{H:Hp}{s:af}{E:aa->af->Prop}
theorem Inv.jk(I:Inv X j4 σ H s)(E:aa->af->Prop):Inv (X.jk E) j4 σ H s:=⟨I.ok.jk E,I.os,I.bare,I.base,I.loc,I.cell,I.free,I.cT,I.pin,I.aW,I.len⟩
theorem Inv.fg(I:Inv (X.jk E) j4 σ H s):Inv X j4 σ H s:=⟨I.ok.fg,I.os,I.bare,I.base,I.loc,I.cell,I.free,I.cT,I.pin,I.aW,I.len⟩
theorem SP.fg{D:Ends}{f:Flow}{s':af}(h:SP (X.jk E) j4 D f s'):SP X j4 D f s':=by
 cases f with
 |next=>obtain⟨a,b,I,q⟩:=h;exact⟨a,b,I.fg,q⟩
 |brk=>obtain⟨a,b,I,q⟩:=h;exact⟨a,b,I.fg,q⟩
 |cont=>obtain⟨a,b,I,q⟩:=h;exact⟨a,b,I.fg,q⟩
 |ret u=>obtain⟨v,a,b,I,r,q⟩:=h;exact⟨v,a,b,I.fg,r,q⟩
theorem jj.my{st:List ay}{t:TS}(h:jj X.my st t):jj X st t:=λj4 s σ H D I a=>
 Yz (h j4 s σ H D (I.jk _) a) (λ_ _ q=>q.fg) λ_ _ z=>False.elim z
end
section
variable{X:Cx}{st:ay}{rest:List ay}{t u:TS}{e:ar}{te:TE}{pos:aA}
def xM6:TS:=λD a H=>D.nx a H
def p9(t u:TS):TS:=λD a H=>t {D with nx:=u D} a H
theorem c_:jj X [] xM6:=λ_ _ a H _ I h=>Wj ⟨a,H,I,h⟩
theorem dG(h1:PS X st t)(h2:jj X rest u):jj X (st::rest) (p9 t u):=by
 intro b s g H D I h;refine wpAny_execs_cons (bC (h1 b s g H {D with nx:=u D} I h) λf d q=>?_);cases f with
 |next=>
  obtain⟨a,i,c,q⟩:=q;exact h2 b d a i D c q
 |ret v=>exact q
 |brk=>exact q
 |cont=>exact q
theorem cm(h1:PS X st t):jj X [st] t:=by
 intro b s a H D I h;refine wpAny_execs_cons (bC (h1 b s a H D I h) λf c q=>?_);cases f with
 |next=>exact Wj q
 |ret v=>exact q
 |brk=>exact q
 |cont=>exact q
theorem Inv.quiet{a:List (ae×aw)}{σ:St}{H:Hp}{s:af}(I:Inv X a σ H s):interactive X.env=false:=by simp[interactive,I.ok.kind]
def xM7(te:TE):TS:=λD a H=>te a H λ_ b=>D.nx a b
theorem ip(b:PE X e te)(hs:swapsWith e none pos.line X.env=pure false:=by rfl):PS X (.Expr e pos) (xM7 te):=by
 intro g s a H D I h;exact wpAny_Expr_any (bC (b g s a H _ I h) λv i ⟨x,c,f,j,d⟩=>⟨a,c,f,d⟩) I.quiet hs
def BV(te:TE):TS:=λD a H=>te a H D.rt
theorem cj(b:PE X e te):PS X (.Return (some e) pos) (BV te):=by
 intro i s a H D I h;exact wpAny_Return_some (bC (b i s a H _ I h) λv j ⟨x,c,g,f,d⟩=>⟨x,a,c,g,f,d⟩)
def xM8:TS:=λD _ H=>D.rt .cA H
theorem IW:PS X (.Return none pos) xM8:=λ_ _ a H _ I h=>wpAny_Return_none ⟨.cA,a,H,I,rfl,h⟩
def Ld(c:TT)(t u:TS):TS:=λD a H=>c a H λb d=>if b=true then t D a d else u D a d
theorem c9{c:ar}{a b:List ay}{m:TT}(hc:PT X c m)(p:jj X a t)(hb:jj X b u):PS X (.If c a b pos) (Ld m t u):=by
 intro g s f H D I h;refine wpAny_If (bC (hc g s f H _ I h) λd j ⟨i,l,k⟩=>?_);cases d with
 |true=>exact p g j f i D l k
 |false=>exact hb g j f i D l k
def xF4:TS:=λ_ _ _=>False
theorem m8{a:List ay}:jj X a xF4:=λ_ _ _ _ _ _ h=>h.elim
end
abbrev TG:=V->St->Hp->(St->Hp->Prop)->Prop
abbrev rR:=List V->St->Hp->(St->Hp->Prop)->Prop
def PG(X:Cx)(a:ar)(t:TG):Prop:=
 ∀(e:List (ae×aw))(s:af)(c:St)(H:Hp)(v:V)(u:aa)(Q:St->Hp->Prop),Inv X e c H s->RelV v u->t v c H Q ->
  ag (aj X.prog X.w) X.A (assign a X.env u) (λ_ f=>∃b d,Inv X e b d f/\Q b d) X.xe s
def Ge(X:Cx)(g:List ar)(t:rR):Prop:=
 ∀(f:List (ae×aw))(s:af)(c:St)(H:Hp)(d:List V)(b:List aa)(Q:St->Hp->Prop),Inv X f c H s->Vals d b->t d c H Q ->
  ag (aj X.prog X.w) X.A (assignInOrder ((assignEach g X.env).map (·.2)) b) (λ_ h=>∃a e,Inv X f a e h/\Q a e) X.xe s
abbrev Af:=V->V->V->Hp->(Hp->Prop)->Prop
def Ga(X:Cx)(t:Af):Prop:=
 ∀(e:List (ae×aw))(s:af)(a:St)(H:Hp)(o i v:V)(d b u:aa)(Q:Hp->Prop),Inv X e a H s->RelV o d->RelV i b->RelV v u->t o i v H Q ->
  ag (aj X.prog X.w) X.A (setItem d b u) (λ_ f=>∃c,Inv X e a c f/\Q c) X.xe s
abbrev JR:=V->V->Hp->VK->Prop
def PIp(X:Cx)(c:Operator)(t:JR):Prop:=
 ∀(b:List (ae×aw))(s:af)(a:St)(H:Hp)(x y:V)(v u:aa)(Q:VK),Inv X b a H s->RelV x v->RelV y u->t x y H Q ->
  ag (aj X.prog X.w) X.A (inplaceOp c v u) (EP X b a Q) X.xe s
section
variable{X:Cx}{pos:aA}
def eZ(i:Nat):TG:=λv a H Q=>Q (a.set i (some v)) H
theorem AJ{i:Nat}{x:aq}(a:X.N.Nodup)(d:X.N[i]?=some x)(c:Loc X.env.scope x)(e:X.fn x=true\/X.env.scope.names.lookup x=some .local:=by first|exact .inl rfl|exact .inr rfl|assumption):PG X (.Name x pos) (eZ i):=by
 intro j s g H v u Q I r h;exact wpAny_assign_Name (yh I a d c r (λf b=>⟨_,H,b,h⟩) e)
def pJ:rR:=λa b H Q=>a=[]/\Q b H
inductive zR(t:TG)(u:rR)(vs:List V)(σ:St)(H:Hp)(Q:St->Hp->Prop):Prop
 |mk(v:_)(r:_)(e0:vs=v::r)(e1:t v σ H λσ' H'=>u r σ' H' Q)
def qB(t:TG)(u:rR):rR:=λa b H Q=>zR t u a b H Q
theorem oz:Ge X [] pJ:=by
 intro d s a H c b Q I r h;obtain⟨e,h⟩:=h;subst e;cases r;exact assignInOrder_nil ⟨a,H,I,h⟩
theorem e_{e:ar}{es:List ar}{t:TG}{u:rR}(h1:PG X e t)(h2:Ge X es u)
  (hs:(assignEach (e::es) X.env).map (·.2)=assign e X.env::(assignEach es X.env).map (·.2):=by rfl):Ge X (e::es) (qB t u):=by
 intro a s b H l p Q I r h;obtain⟨v,m,j,h⟩:=h;subst j;cases r with
 |cons r c=>
  rw[hs];refine assignInOrder_cons (bC (h1 a s b H _ _ _ I r h) λ_ f ⟨k,d,i,g⟩=>?_);exact h2 a f k d _ _ Q i c g
inductive Fo(K:PySem.W.Frag)(n:Nat)(t:rR)(v:V)(σ:St)(H:Hp)(Q:St->Hp->Prop):Prop
 |mk(a:_)(xs:_)(e0:v=.ref a)(e1:aQ K H a xs)(e2:xs.length=n)(e3:t xs σ H Q)
def pI(K:PySem.W.Frag)(n:Nat)(t:rR):TG:=λv a H Q=>Fo K n t v a H Q
theorem pR{es:List ar}{k:Nat}{t:rR}{n:Nat}(hc:X.calm=true)(h:Ge X es t)
  (j:(assignEach es X.env).length=n:=by rfl) (i:(assignEach es X.env).findIdx? (·.1)=none:=by rfl):PG X (.Tuple es k pos) (pI X.K n t):=by
 intro g s d H v u Q I r c;obtain⟨a,x,w,y,m,c⟩:=c;subst w;cases r;obtain⟨B,f,A,C⟩:=I.tuple y;refine assign_Tuple_tuple (I.ok.hd hc) A (by simp[j,<- m,f.length]) i λl p=>?_;have q:Inv X g d H {s with heap:=l}:=I.kept (t':=s.toks) λb o e=>p b o (Zz (Zl e)) e;exact h g _ d H x _ Q q (by simpa using f) c
def Qn(e d:TE)(t:Af):TG:=λv a H Q=>e a H λo b=>d a b λi f=>t o i v f λc=>Q a c
theorem M6{o i:ar}{f e:TE}{t:Af}(k:PE X o f)(D:PE X i e)(hs:Ga X t)
  (j:∀v,assign (.Subscript o i pos) X.env v=(do
   let a <- holding [v] (eval o X.env)
   let b <- holding [v,a] (eval i X.env)
   standAt pos
   holding [v,a,b] (setItem a b v)
   release [v,a,b] []):=by intro _;rfl):PG X (.Subscript o i pos) (Qn f e t):=by
 intro d s c H v u Q I r h;rw[j];refine Za (ZK (bC (k d s c H _ I h) λa m ⟨x,l,A,E,p⟩=>?_));refine Za (ZK (bC (D d m c l _ A p) λb G ⟨y,F,g,C,J⟩=>?_));refine Za (WK (Za (ZK (bC (hs d G c F x y v a b u _ g E C r J) λ_ K ⟨q,B,w⟩=>?_))));exact wpAny_release ⟨c,q,B,w⟩
def lu(te:TE)(g:TG):TS:=λD a H=>te a H λx b=>g x a b D.nx
theorem m6{a e:ar}{te:TE}{g:TG}(f:PE X e te)(d:PG X a g)(hs:swapsWithSole [a] e pos.line X.env=pure false:=by rfl)(hw:swappedStores [a] e X.env=pure none:=by rfl)
  (h1:(assignEach [a] X.env).map (·.2)=[assign a X.env]:=by rfl):PS X (.Assign [a] e pos) (lu te g):=by
 intro c s b H D I h;refine wpAny_Assign_stores (bC (f c s b H _ I h) λv j ⟨x,i,l,m,k⟩=>?_) hs hw;rw[h1];exact bC (d c j b i x v _ l m k) λ_ p q=>q
theorem R_{i:Nat}{x:aq}{e:ar}{te:TE}{a:aA}(b:X.N.Nodup)(q:X.N[i]?=some x)(l:Loc X.env.scope x)(j:PE X e te)(hs:swapsWith e (some (.Name x a)) pos.line X.env=pure false:=by rfl)(f:X.fn x=true\/X.env.scope.names.lookup x=some .local:=by first|exact .inl rfl|exact .inr rfl|assumption):
  PS X (.Assign [.Name x a] e pos) (lu te (eZ i)):=by
 intro g s c H D I h;refine wpAny_Assign_Name (bC (j g s c H _ I h) λv u ⟨y,k,p,r,m⟩=>?_) hs;exact yh p b q l r (λw d=>⟨_,k,d,m⟩) f
def Lb(i j:Nat)(b:TA):TS:=λD a H=>b a H λd c=>∃v w,d=[v,w]/\D.nx ((a.set i (some v)).set j (some w)) c
theorem xF5{i j:Nat}{x y:aq}{a b:ar}{u:TA}{k l pt:aA}{kt k2 vq} (hc:X.calm=true) (m:X.N.Nodup) (T:X.N[i]?=some x) (Y:X.N[j]?=some y) (G:i≠j)
  (C:X.env.scope.names.lookup x=some .local) (F:X.env.scope.names.lookup y=some .local) (M:PA X [a,b] u)
  (hw:swappedStores [.Tuple [.Name x k,.Name y l] kt pt] (.Tuple [a,b] k2 vq) X.env=pure (some [x,y]))
  (hs:swapsWithSole [.Tuple [.Name x k,.Name y l] kt pt] (.Tuple [a,b] k2 vq) pos.line X.env=pure false:=by rfl):
  PS X (.Assign [.Tuple [.Name x k,.Name y l] kt pt] (.Tuple [a,b] k2 vq) pos) (Lb i j u):=by
 intro A s r H D I h;rw[exec_Assign_arm];refine Za (WK ?_);rw[hs];refine Za (Zc ?_);rw[Zi 'c'];refine Za (Tuple_ (bC (M _ A s r H _ I h) λU d ⟨Z,B,P,V,g⟩=>?_));obtain⟨v,w,Q,g⟩:=g;subst Q;obtain⟨f,c,rfl,K,W⟩:∃f c,U=[f,c]/\RelV v f/\RelV w c:=by
  cases V with
  |cons p q=>
   cases q with
   |cons R O=>
    cases O;exact⟨_,_,rfl,p,R⟩
 refine ZO ?_ (by show 2<=sizeLine;decide);have J:Inv X A r B {d with heap:=d.heap.push {cls:=.type "tuple",data:=.seq [f,c].toArray}}:=P.kept (t':=d.toks) λb o e=>Zb _ e;rw[hw];refine Za (Zc ?_);show ag (aj X.prog X.w) X.A (do rule "assign.swapped-stores";let items <- unpackItems (.ref d.heap.objs.size) 2 none;assignInOrder [λv=>bindName X.env y v,λv=>bindName X.env x v] items.reverse;pure Flow.next) _ _ _;refine Za (XX (Za (unpackItems_tuple (items:=#[f,c]) (I.ok.hd hc) (IsTup.new d.heap _) λh' N=>?_)));have S:=J.kept (h':=h') (t':=d.toks) λb o e=>N b o (Zz (Zl e)) e;show ag _ _ (assignInOrder [λv=>bindName X.env y v,λv=>bindName X.env x v] [c,f] >>= λ_=>pure Flow.next) _ _ _;refine Za (assignInOrder_cons (wpAny_bindName (yh S m Y (.inl F) W (λs2 L=>?_) (.inr F))));refine assignInOrder_cons (wpAny_bindName (yh L m T (.inl C) K (λs3 E=>assignInOrder_nil (Zc ?_)) (.inr C)));rw[List.set_comm _ _ (Z2 G)]at E;exact⟨_,B,E,g⟩
inductive BZ(i:Nat)(te:TE)(ti:JR)(D:Ends)(σ:St)(H:Hp):Prop
 |mk(x:_)(e0:σ[i]?=some (some x))(e1:te σ H λy H1=>ti x y H1 λz H2=>D.nx (σ.set i (some z)) H2)
def Lg(i:Nat)(te:TE)(a:JR):TS:=λD b H=>BZ i te a D b H
theorem R9{i:Nat}{x:aq}{e:ar}{te:TE}{d:Operator}{q:JR}{b:aA}(C:X.N.Nodup)(A:X.N[i]?=some x)(g:Loc X.env.scope x)(N:PE X e te)(K:PIp X d q)(M:X.fn x=true\/X.env.scope.names.lookup x=some .local:=by first|exact .inl rfl|exact .inr rfl|assumption):
  PS X (.AugAssign (.Name x b) d e pos) (Lg i te q):=by
 intro f s p H D I h;obtain⟨v,U,h⟩:=h;obtain⟨m,L,hl⟩:=I.loc;have j:uB X.env.scope x:=by rcases g with k|k;exact .inl k;exact .inr (.inl k)
 obtain⟨u,r,l⟩:=hl i x v A U j;refine wpAny_AugAssign_Name ?_;have go:ag (aj X.prog X.w) X.A (eval e X.env) (λw T=>ag (aj X.prog X.w) X.A (inplaceOp d u w) (λr E=>ag (aj X.prog X.w) X.A (storeName X.env x r) (λ_=>SP X f D .next) X.xe E) X.xe T) X.xe s:=by
  refine bC (N f s p H _ I h) λw P ⟨y,O,R,Y,Q⟩=>?_;refine bC (K f P p O v y u w _ R r Y Q) λz s2 ⟨zv,Z,F,W,J⟩=>?_;exact yh F C A g W (λs3 V=>⟨_,Z,V,J⟩) M
 rcases l with⟨a,B⟩|⟨a,c,S,G⟩
 ·exact wpAny_loadName_local I.ok.kind a L B go
 ·rcases a with a|a
  ·exact wpAny_loadName_cell I.ok.kind a S G go
  ·rcases g with k|k
   ·have:X.env.scope.names.lookup x=some .free:=a;rw[k]at this;cases this
   ·have:X.env.scope.names.lookup x=some .free:=a;rw[k]at this;cases this
def xF6(c:TT)(tb:TS):TS:=λD a H=>∃W:Nat->St->Hp->Prop,(∃m,W m a H)/\∀m a H,W m a H ->
 c a H λb e=>if b=true then ∃N:St->Hp->Prop,(∀d g,N d g->∃f,f<m/\W f d g)/\tb {D with nx:=N,ct:=N,bk:=D.nx} a e else D.nx a e
theorem xj4{c:ar}{a:List ay}{F:TT}{tb:TS}(B:PassesOwn (aj X.prog X.w) X.A X.env X.xe)(hc:PT X c F)(hb:jj X a tb):PS X (.While c a [] pos) (xF6 F tb):=by
 intro q s J H D I h;obtain⟨W,⟨P,G⟩,d⟩:=h;refine wpAny_While (codeAny_whileLoop (λn K=>∃g A,Inv X q g A K/\W n g A) ?_ P ⟨J,H,I,G⟩);rintro n M ⟨l,C,O,L⟩;refine Xg B (bC (hc q M l C _ O (d n l C L)) λb Q ⟨E,y,j⟩=>?_);cases b with
 |true=>
  obtain⟨N,x,j⟩:=j;rw[Zr rfl];refine Xg B (bC (hb q Q l E _ y j) λf R k=>?_);cases f with
  |next=>
   obtain⟨i,e,w,r⟩:=k;obtain⟨u,m,p⟩:=x i e r;exact⟨u,m,i,e,w,p⟩
  |cont=>
   obtain⟨i,e,w,r⟩:=k;obtain⟨u,m,p⟩:=x i e r;exact⟨u,m,i,e,w,p⟩
  |brk=>exact k
  |ret v=>exact k
 |false=>
  rw[Zi ZG];exact Wj ⟨l,E,y,j⟩
end
structure It where
 go:Nat->Hp->Prop
 mV:Nat->Hp->V->Hp->Prop
 stop:Nat->Hp->Prop
def gz(X:Cx)(a:List (ae×aw))(H:Hp)(b:ae):Prop:=
 H b=none/\b≠X.env.locals/\b∉X.fs/\(b∈X.ex\/X.aG.heap.objs.size<=b)/\(∀x c,X.env.cells.lookup x=some c->c≠b)/\∀p∈X.pn++a,p.1≠b
theorem Inv.lP{X:Cx}{d:List (ae×aw)}{σ:St}{H a:Hp}{s:af}{b:ae}(I:Inv X d σ H s)(hb:s.heap.objs.size<=b)(g:a b=none):gz X d a b:=by
 refine⟨g,Xi (ZJ I.lt hb),I.Ny hb,.inr (ZN I.sz hb),λx c e z=>?_,λp f z=>?_⟩
 ·obtain⟨v,q⟩:=I.cell x c e;exact absurd (ZJ q.lt (by rw[z];exact hb)) (YH _)
 ·exact absurd (ZJ (Zl (I.pin p f).1) (by rw[z];exact hb)) (YH _)
structure Turn(P:ah)(w:ak)(K:PySem.W.Frag)(tg:ar)(J:It)(fp:List ae)(it:ae)(tn:Nat->ao->Prop):Prop where
 mem:it∈fp
 obj:∀i h,tn i h->∀b∈fp,∃o,h.get? b=some o/\∀v,o.data≠.cell v
 keep:∀i h h',tn i h->(∀b∈fp,∀o,h.get? b=some o->h'.get? b=some o)->tn i h'
 item:∀(X:Cx),X.prog=P->X.w=w->X.K=K->X.calm=true->∀(i:Nat)(j4:List (ae×aw))(s:af)(σ:St)(H:Hp)(E:aa->af->Prop),Inv X j4 σ H s->(∀b∈fp,gz X j4 H b)->tn i s.heap->J.go i H ->
  ag (aj P w) X.A (pyNext (.ref it)) (λr s1=>∃u,r=some u /\
   ag (aj P w) X.A (letOwnedTupleGo tg (.ref it) u) (λ_ s2=>∃x H',Inv X j4 σ H' s2/\RelV x u/\J.mV i H x H'/\tn (i+1) s2.heap/\∀b∈fp,H' b=none) E s1) E s
 done:∀(X:Cx),X.prog=P->X.w=w->X.K=K->X.calm=true->∀(i:Nat)(j4:List (ae×aw))(s:af)(σ:St)(H:Hp)(E:aa->af->Prop),Inv X j4 σ H s->(∀b∈fp,gz X j4 H b)->tn i s.heap->J.stop i H ->
  ag (aj P w) X.A (pyNext (.ref it)) (λr s1=>r=none/\Inv X j4 σ H s1) E s
 self:∀(A:au)(i:Nat)(s:af)(Q:aa->af->Prop)(E:aa->af->Prop),tn i s.heap->Q (.ref it) s->ag (aj P w) A (pyIter (.ref it)) Q E s
abbrev TI:=St->Hp->(It->Hp->Prop)->Prop
def PIE(X:Cx)(g:List (ae×aw))(σ:St)(i:ar)(R:It->Hp->Prop)(h:aa)(e:af):Prop:=
 ∃(f:ae)(c:List ae)(d:Nat->ao->Prop)(J:It)(a:Hp),h=.ref f/\Inv X g σ a e/\Turn X.prog X.w X.K i J c f d/\d 0 e.heap/\(∀b∈c,gz X g a b)/\R J a
def PI(X:Cx)(d iter:ar)(e:TI):Prop:=
 ∀(b:List (ae×aw))(s:af)(a:St)(H:Hp)(R:It->Hp->Prop),Inv X b a H s->e a H R ->
  ag (aj X.prog X.w) X.A (eval iter X.env) (λv c=>ag (aj X.prog X.w) X.A (pyIter v) (PIE X b a d R) X.xe c) X.xe s
theorem G9{M:Model}{A:au}{E:aa->af->Prop}{s:af}{b:ar}{it:ae}{u:aa}{o:aw}{n:String}{vs:Array aa}{Q:Unit->af->Prop}(d:s.heap.get? it=some o)(hc:o.cls=.type n)(c:o.data=.fields vs)
  (e:["enumerate","zip","dict_itemiterator","dict_reverseitemiterator","odict_iterator","itertools.zip_longest","itertools.pairwise"].contains n=false) (a:Q () s):ag M A (letOwnedTupleGo b (.ref it) u) Q E s:=by
 unfold letOwnedTupleGo;cases b<;>first
  |exact Zc a
  |(cases u<;>first
    |exact Zc a
    |(refine Za (wpAny_load d ?_)
      rw[hc,c];show ag M A (if(["enumerate","zip","dict_itemiterator","dict_reverseitemiterator","odict_iterator","itertools.zip_longest","itertools.pairwise"].contains n&&vs[0]?==some (rawInt _))=true then _ else _) Q E s;rw[Zi (by intro h;rw[e,Bool.false_and]at h;cases h)];exact Zc a))
def uD(K:PySem.W.Frag)(a:ae):It:=
 ⟨λi H=>∃b x,bY K H a b/\b[i]?=some x,λi H x c=>c=H/\∀b,bY K H a b->b[i]?=some x,λi H=>∃b,bY K H a b/\b.length<=i⟩
def sO(K:PySem.W.Frag)(a:ae):It:=
 ⟨λi H=>∃b x,aQ K H a b/\b[i]?=some x,λi H x c=>c=H/\∀b,aQ K H a b->b[i]?=some x,λi H=>∃b,aQ K H a b/\b.length<=i⟩
def sP(lo:Int)(n:Nat):It:=⟨λi _=>i<n,λi H x a=>a=H/\x=.int (lo+i),λi _=>n<=i⟩
theorem U9{P:ah}{w:ak}{K:PySem.W.Frag}{S:ar}(a it:ae):Turn P w K S (uD K a) [it] it (λi h=>h.IsListIter it a i) where
 mem:=by simp
 obj:=λi h f b hb=>by
  have e:b=it:=by simpa using hb
  subst e;obtain⟨o,e,c,d⟩:=f;exact⟨o,e,λv z=>by rw[d]at z;cases z⟩
 keep:=λi h g f k=>f.at λo e=>k it 'b' o e
 item:=by
  intro X D G m O i M s L H E I j f y;subst D G m;obtain⟨Z,x,l,C⟩:=y;obtain⟨Q,q,p,W⟩:=I.list l;obtain⟨u,T,V⟩:=q.get C;obtain⟨J,r,U,B,A,F⟩:=j it 'b';refine wpAny_pyNext_list_item f p.isList (x:=u) (by simpa using T) λg N R=>?_;have Y:Inv X M L H {s with heap:=g}:=I.turned (t':=s.toks) (λb o hb e=>(R.2 b hb).trans e) J r B A F;obtain⟨o,e,c,d⟩:=id N;exact⟨u,rfl,G9 (s:={s with heap:=g}) e c d 'c' ⟨x,H,Y,V,⟨rfl,λys hy=>by rw[I.rh hy l];exact C⟩,N,λb hb=>(j b hb).1⟩⟩
 done:=by
  intro X D G m O i M s L H E I j f y;subst D G m;obtain⟨Z,l,C⟩:=y;obtain⟨Q,q,p,W⟩:=I.list l;obtain⟨J,r,U,B,A,F⟩:=j it 'b';have hl:=q.length;exact wpAny_pyNext_list_end (I.ok.hd O) f p.isList (by simp;lia) λg eb=>⟨rfl,I.turned (t':=s.toks) (λb o hb e=>eb b o hb e) J r B A F⟩
 self:=λ_ _ _ _ _ f h=>wpAny_pyIter_listiter f h
theorem VH{P:ah}{w:ak}{K:PySem.W.Frag}{S:ar}(a it:ae):Turn P w K S (sO K a) [it] it (λi h=>h.IsTupleIter it a i) where
 mem:=by simp
 obj:=λi h f b hb=>by
  have e:b=it:=by simpa using hb
  subst e;obtain⟨o,e,c,d⟩:=f;exact⟨o,e,λv z=>by rw[d]at z;cases z⟩
 keep:=λi h g f k=>f.at λo e=>k it 'b' o e
 item:=by
  intro X F J q Q i N s M H E I j f A;subst F J q;obtain⟨Z,x,l,D⟩:=A;obtain⟨m,r,p,W⟩:=I.tuple l;obtain⟨u,T,V⟩:=r.get D;obtain⟨L,y,U,C,B,G⟩:=j it 'b';refine wpAny_pyNext_tuple_item f (show s.heap.IsTuple a m.toArray from p) (x:=u) (by simpa using T) λg O R=>?_;have Y:Inv X N M H {s with heap:=g}:=I.turned (t':=s.toks) (λb o hb e=>(R.2 b hb).trans e) L y C B G;obtain⟨o,e,c,d⟩:=id O;exact⟨u,rfl,G9 (s:={s with heap:=g}) e c d 'c' ⟨x,H,Y,V,⟨rfl,λys hy=>by rw[I.fH hy l];exact D⟩,O,λb hb=>(j b hb).1⟩⟩
 done:=by
  intro X F J q Q i N s M H E I j f A;subst F J q;obtain⟨Z,l,D⟩:=A;obtain⟨m,r,p,W⟩:=I.tuple l;obtain⟨L,y,U,C,B,G⟩:=j it 'b';have hl:=r.length;exact wpAny_pyNext_tuple_end (I.ok.hd Q) f (show s.heap.IsTuple a m.toArray from p) (by simp;lia) λg eb=>⟨rfl,I.turned (t':=s.toks) (λb o hb e=>eb b o hb e) L y C B G⟩
 self:=λ_ _ _ _ _ f h=>wpAny_pyIter_tupleiter f h
theorem qZ3{P:ah}{w:ak}{K:PySem.W.Frag}{F:ar}(it:ae)(lo:Int)(n:Nat):Turn P w K F (sP lo n) [it] it (λi h=>IsRangeIter h it (lo+(i:Nat)*1) ((n:Int)-(i:Nat)) 1) where
 mem:=by simp
 obj:=λi h a b hb=>by
  have e:b=it:=by simpa using hb
  subst e;exact⟨_,a,λv z=>by
   have G:Data.fields _=Data.cell v:=z;cases G⟩
 keep:=λi h c a k=>k it 'b' _ a
 item:=by
  intro X p u f r i A s y H E I d a j;subst p u f;obtain⟨x,g,J,m,l,q⟩:=d it 'b';have W:=Walks.range (prog:=X.prog) (w:=X.w) (I.ok.hd r) it lo 1 n;refine W.item i s _ _ j a λv c C N B D=>?_;obtain⟨t,rfl⟩:=N;have L:Inv X A y H {s with heap:=c,toks:=C}:=I.turned (λb o hb e=>D b o (by simpa using hb) e) x g m l q;refine⟨_,rfl,G9 (s:={s with heap:=c,toks:=C}) (n:= "range_iterator") B rfl rfl 'c' ⟨.int (lo+i),H,L,⟨t,?_⟩,⟨rfl,rfl⟩,B,λb hb=>(d b hb).1⟩⟩;rw[Int.mul_one]
 done:=by
  intro X p u f r i A s y H E I d a j;subst p u f;obtain⟨x,g,J,m,l,q⟩:=d it 'b';exact wpAny_pyNext_range_end (I.ok.hd r) a (by have:n<=i:=j;lia) λc M=>⟨rfl,I.turned (t':=s.toks) (λb o hb e=>M b o hb e) x g m l q⟩
 self:=λ_ _ _ _ _ a h=>wpAny_pyIter_rangeiter a h
section
variable{X:Cx}{tg:ar}
inductive zq(K:PySem.W.Frag)(R:It->Hp->Prop)(x:V)(H1:Hp):Prop
 |mk(a:_)(e0:x=.ref a)(e1:(∃xs,bY K H1 a xs))(e2:R (uD K a) H1)
def Ki(K:PySem.W.Frag)(c:TE):TI:=λb H R=>c b H λx a=>zq K R x a
inductive Ei(K:PySem.W.Frag)(R:It->Hp->Prop)(x:V)(H1:Hp):Prop
 |mk(a:_)(e0:x=.ref a)(e1:(∃xs,aQ K H1 a xs))(e2:R (sO K a) H1)
def Ej(K:PySem.W.Frag)(c:TE):TI:=λb H R=>c b H λx a=>Ei K R x a
theorem Mp{l:ar}{f:TE}(u:PE X l f):PI X tg l (Ki X.K f):=by
 intro i s g H R I h;refine bC (u i s g H _ I h) λv c ⟨x,j,d,r,k⟩=>?_;obtain⟨a,e,⟨B,m⟩,q⟩:=k;subst e;cases r;obtain⟨w,y,p,A⟩:=d.list m;refine Xj p.isList ?_;refine⟨c.heap.objs.size,[c.heap.objs.size],_,_,j,rfl,d.kept (t':=c.toks) λb o e=>Zb _ e,U9 a _,⟨_,Zh _ rfl,rfl,rfl⟩,λb hb=>?_,q⟩;have e:b=c.heap.objs.size:=by simpa using hb
 subst e;exact d.lP (Zg _) (d.aW.fresh (Zg _))
theorem sr{l:ar}{f:TE}(w:PE X l f):PI X tg l (Ej X.K f):=by
 intro j s i H R I h;refine bC (w j s i H _ I h) λv c ⟨x,k,d,u,m⟩=>?_;obtain⟨a,e,⟨B,r⟩,q⟩:=m;subst e;cases u;obtain⟨g,y,p,A⟩:=d.tuple r;refine YM (show c.heap.IsTuple a g.toArray from p) ?_;refine⟨c.heap.objs.size,[c.heap.objs.size],_,_,k,rfl,d.kept (t':=c.toks) λb o e=>Zb _ e,VH a _,⟨_,Zh _ rfl,rfl,rfl⟩,λb hb=>?_,q⟩;have e:b=c.heap.objs.size:=by simpa using hb
 subst e;exact d.lP (Zg _) (d.aW.fresh (Zg _))
theorem qy{d:List (ae×aw)}{σ:St}{H:Hp}{s:af}{R:It->Hp->Prop}{E:aa->af->Prop}{lo a:Int}{t u v:Tok}{tk:Nat}(I:Inv X d σ H s)(h1:-(2^62)<=lo)(h2:lo<2^62)(h:-(2^62)<=a)(i:a<2^62)
  (q:R (sP lo (a-lo).toNat) H):ag (aj X.prog X.w) X.A (pyIter (.ref s.heap.objs.size)) (PIE X d σ tg R) E {s with heap:=s.heap.push {cls:=.type "range",data:=.fields #[.int lo t,.int a u,.int 1 v]},toks:=tk}:=by
 refine wpAny_pyIter_range (IsRange.new ..) (small_one h1 h2 h i) ?_;have c:Inv X d σ H {s with heap:=s.heap.push {cls:=.type "range",data:=.fields #[.int lo t,.int a u,.int 1 v]},toks:=tk}:=I.kept λb o e=>Zb _ e;refine⟨(s.heap.push {cls:=.type "range",data:=.fields #[.int lo t,.int a u,.int 1 v]}).objs.size,[(s.heap.push {cls:=.type "range",data:=.fields #[.int lo t,.int a u,.int 1 v]}).objs.size],_,_,H,rfl,
  c.kept (t':=tk) λb o e=>Zb _ e,qZ3 _ lo (a-lo).toNat,?_,λb hb=>?_,q⟩
 ·have g:lo+((0:Nat):Int)*1=lo:=by simp
  have f:(((a-lo).toNat:Nat):Int)-((0:Nat):Int)=Builtin.Range.rangeSize lo a 1:=by rw[rangeSize_one];split<;>lia
  show IsRangeIter _ _ (lo+((0:Nat):Int)*1) ((((a-lo).toNat:Nat):Int)-((0:Nat):Int)) 1;rw[g,f];exact Zh _ rfl
 ·have e:b=(s.heap.push {cls:=.type "range",data:=.fields #[.int lo t,.int a u,.int 1 v]}).objs.size:=by simpa using hb
  subst e;exact c.lP (Zg _) (c.aW.fresh (Zg _))
inductive zo(R:It->Hp->Prop)(vs:List V)(H1:Hp):Prop
 |mk(j:Int)(e0:vs=[.int j])(e1:-(2^62)<=j)(e2:j<2^62)(e3:R (sP 0 j.toNat) H1)
def xM9(a:TA):TI:=λc H R=>a c H λd b=>zo R d b
theorem CV{a:ar}{d:TA}{p b:aA}(i:Gl X "range")(f:X.mg "range"=none)(k:PA X [a] d)(hs:starEach [a] X.env=[(false,eval a X.env)]:=by rfl):PI X tg (.Call (.Name "range" p) [a] [] b) (xM9 d):=by
 intro m s g H R I h;refine Call_ (A4 I i f boot_range (Y6 (bC (k b m s g H _ I h) λB y ⟨A,x,u,v,c⟩=>?_) hs rfl));obtain⟨j,e,c,w,q⟩:=c;subst e;cases v with
 |cons r l=>
  cases l;obtain⟨t,rfl⟩:=r;exact call_range_1 (qy u 'a' 'a' c w (by simpa using q))
def BW(h:TI)(g:TG)(tb:TS):TS:=λD a H=>h a H λJ e=>∃W:Nat->Nat->St->Hp->Prop,(∃m,W 0 m a e)/\∀i m a H,W i m a H ->
 (J.stop i H/\D.nx a H)\/(J.go i H/\∃N:St->Hp->Prop,(∀b c,N b c->∃d,d<m/\W (i+1) d b c)/\∀x c,J.mV i H x c->g x a c λf j=>tb {D with nx:=N,ct:=N,bk:=D.nx} f j)
def Dd(fp:List ae)(h:ao):List (ae×aw):=fp.filterMap λb=>(h.get? b).map λo=>(b,o)
theorem Ic{fp:List ae}{h:ao}{b:ae}{o:aw}(hb:b∈fp)(e:h.get? b=some o):(b,o)∈Dd fp h:=Wn.mpr ⟨b,hb,by rw[e];rfl⟩
theorem q46{fp:List ae}{h:ao}{p:ae×aw}(a:p∈Dd fp h):p.1∈fp/\h.get? p.1=some p.2:=by
 obtain⟨b,hb,e⟩:=Wn.mp a;cases q:h.get? b with
 |none=>rw[q]at e;cases e
 |some o=>
  rw[q]at e;have c:(b,o)=p:=Zu e;subst c;exact⟨hb,q⟩
theorem Inv.pinned{a:List (ae×aw)}{σ:St}{H:Hp}{s:af}{fp:List ae}(I:Inv X a σ H s)(g:∀b∈fp,gz X a H b)(f:∀b∈fp,∃o,s.heap.get? b=some o/\∀v,o.data≠.cell v):Inv X (a++Dd fp s.heap) σ H s:=
 I.oI λp h=>(Z8.mp h).elim (λz=>I.pin p (Z1 _ z)) λz=>by
  obtain⟨hb,e⟩:=q46 z;obtain⟨j,i,k,_⟩:=g p.1 hb;obtain⟨o,c,d⟩:=f p.1 hb;rw[e]at c;cases c;exact⟨e,j,i,k,d⟩
theorem Inv.fh{a pl:List (ae×aw)}{σ:St}{H:Hp}{s:af}(I:Inv X (a++pl) σ H s):Inv X a σ H s:=I.oI λp b=>I.pin p (Z1 _ (YO _ b))
theorem o_{iter:ar}{w:List ay}{U:TI}{g:TG}{tb:TS}{K:aA}(C:PassesOwn (aj X.prog X.w) X.A X.env X.xe)(hc:X.calm=true)(hi:PI X tg iter U)(hg:PG X tg g)(hb:jj X w tb)
  (hs:∀x,foldedSetIterable iter X.env x=pure x:=by intro _;rfl):PS X (.For tg iter w [] K) (BW U g tb):=by
 intro y s Y H D I h;refine wpAny_For (bC (hi y s Y H _ I h) λv s1 h1=>bC h1 λN7 s2 h2=>?_) hs;obtain⟨it,A,tn,J,H2,e,I2,T,l7,Z,W,⟨m0,w0⟩,E⟩:=h2;subst e;have L:∀{p:Hp},(∀b∈A,p b=none)->∀b∈A,gz X y p b:=λhn b hb=>⟨hn b hb,(Z b hb).2⟩;refine codeAny_forLoop_any (λn Q=>∃i c p,Inv X y c p Q/\tn i Q.heap/\(∀b∈A,p b=none)/\W i n c p) ?_ m0 ⟨0,Y,H2,I2,l7,λb hb=>(Z b hb).1,w0⟩;rintro n s3 ⟨i,F,G,I3,V,S,w3⟩;rcases E i n F G w3 with⟨stop,qn⟩|⟨go,N,hN,step⟩
 ·refine Xg C (bC (T.done X rfl rfl rfl hc i y s3 F G X.xe I3 (L S) V stop) λr s4 ⟨O,I4⟩=>?_);subst O;exact Wj ⟨F,G,I4,qn⟩
 ·refine Xg C (bC (T.item X rfl rfl rfl hc i y s3 F G X.xe I3 (L S) V go) λr s4 ⟨u,O,h4⟩=>?_);subst O;refine Xg C (bC h4 λ_ s5 ⟨x,R,I5,r5,y5,M,Qs⟩=>?_);have Q7:=I5.pinned (L Qs) (T.obj _ _ M);refine Xg C (bC (hg _ s5 F R x u _ Q7 r5 (step x R y5)) λ_ s6 ⟨Ru,H6,I6,q6⟩=>?_);refine Xg C (bC (hb _ s6 Ru H6 _ I6 q6) λf P q=>?_);have a:∀{l:St}{k:Hp},Inv X (y++Dd A s5.heap) l k P->N l k->∃m,m<n/\∃i c p,Inv X y c p P/\tn i P.heap/\(∀b∈A,p b=none)/\W i m c p:=λ{l k} j B=>by
   obtain⟨m',hm,w7⟩:=hN l k B;refine⟨m',hm,i+1,l,k,j.fh,T.keep _ _ _ M λb hb o e=>(j.pin (b,o) (Z1 _ (Z1 _ (Ic hb e)))).1,λb hb=>?_,w7⟩;obtain⟨o,e,d⟩:=T.obj _ _ M b hb;exact(j.pin (b,o) (Z1 _ (Z1 _ (Ic hb e)))).2.1
  cases f with
  |next=>obtain⟨l,k,j,B⟩:=q;exact a j B
  |cont=>obtain⟨l,k,j,B⟩:=q;exact a j B
  |brk=>obtain⟨l,k,j,q⟩:=q;exact⟨l,k,j.fh,q⟩
  |ret v=>obtain⟨x7,l,k,j,r7,q⟩:=q;exact⟨x7,l,k,j.fh,r7,q⟩
end
theorem HI{K:PySem.W.Frag}{a:ae}{xs:List V}{g:TG}{tb:TS}{D:Ends}{σ:St}{H:Hp}(b:Nat->St->Hp->Prop)(h0:b 0 σ H)(u:∀i σ H,i<=xs.length->b i σ H->bY K H a xs)
  (hs:∀i x σ H,xs[i]?=some x->b i σ H->g x σ H λf h=>tb {D with nx:=b (i+1),ct:=b (i+1),bk:=D.nx} f h) (l:∀σ H,b xs.length σ H->D.nx σ H):
  ∃W:Nat->Nat->St->Hp->Prop,(∃m,W 0 m σ H)/\∀i m σ H,W i m σ H ->
   ((uD K a).stop i H/\D.nx σ H)\/((uD K a).go i H/\∃N:St->Hp->Prop,(∀d c,N d c->∃j,j<m/\W (i+1) j d c)/\∀x c,(uD K a).mV i H x c->g x σ c λf h=>tb {D with nx:=N,ct:=N,bk:=D.nx} f h):=by
 refine⟨λi m σ H=>m=xs.length-i/\i<=xs.length/\b i σ H,⟨xs.length,by simp,ZU _,h0⟩,?_⟩;rintro i m σ H ⟨rfl,s,p⟩;have q:=u i σ H s p;by_cases k:i<xs.length
 ·refine .inr ⟨⟨xs,xs[i],q,by simp[k]⟩,b (i+1),λd c r=>⟨xs.length-(i+1),by lia,rfl,k,r⟩,λx c y=>?_⟩;obtain⟨e,y⟩:=y;subst e;exact hs i x σ _ (y xs q) p
 ·have e:i=xs.length:=by lia
  subst e;exact .inl ⟨⟨xs,q,Zg _⟩,l σ H p⟩
theorem CD{K:PySem.W.Frag}{a:ae}{xs:List V}{g:TG}{tb:TS}{D:Ends}{σ:St}{H:Hp}(b:Nat->St->Hp->Prop)(h0:b 0 σ H)(u:∀i σ H,i<=xs.length->b i σ H->aQ K H a xs)
  (hs:∀i x σ H,xs[i]?=some x->b i σ H->g x σ H λf h=>tb {D with nx:=b (i+1),ct:=b (i+1),bk:=D.nx} f h) (l:∀σ H,b xs.length σ H->D.nx σ H):
  ∃W:Nat->Nat->St->Hp->Prop,(∃m,W 0 m σ H)/\∀i m σ H,W i m σ H ->
   ((sO K a).stop i H/\D.nx σ H)\/((sO K a).go i H/\∃N:St->Hp->Prop,(∀d c,N d c->∃j,j<m/\W (i+1) j d c)/\∀x c,(sO K a).mV i H x c->g x σ c λf h=>tb {D with nx:=N,ct:=N,bk:=D.nx} f h):=by
 refine⟨λi m σ H=>m=xs.length-i/\i<=xs.length/\b i σ H,⟨xs.length,by simp,ZU _,h0⟩,?_⟩;rintro i m σ H ⟨rfl,s,p⟩;have q:=u i σ H s p;by_cases k:i<xs.length
 ·refine .inr ⟨⟨xs,xs[i],q,by simp[k]⟩,b (i+1),λd c r=>⟨xs.length-(i+1),by lia,rfl,k,r⟩,λx c y=>?_⟩;obtain⟨e,y⟩:=y;subst e;exact hs i x σ _ (y xs q) p
 ·have e:i=xs.length:=by lia
  subst e;exact .inl ⟨⟨xs,q,Zg _⟩,l σ H p⟩
theorem LD{lo:Int}{n:Nat}{g:TG}{tb:TS}{D:Ends}{σ:St}{H:Hp}(b:Nat->St->Hp->Prop)(h0:b 0 σ H)
  (hs:∀i σ H,i<n->b i σ H->g (.int (lo+i)) σ H λd f=>tb {D with nx:=b (i+1),ct:=b (i+1),bk:=D.nx} d f) (k:∀σ H,b n σ H->D.nx σ H):
  ∃W:Nat->Nat->St->Hp->Prop,(∃m,W 0 m σ H)/\∀i m σ H,W i m σ H ->
   ((sP lo n).stop i H/\D.nx σ H)\/((sP lo n).go i H/\∃N:St->Hp->Prop,(∀c a,N c a->∃j,j<m/\W (i+1) j c a)/\∀x a,(sP lo n).mV i H x a->g x σ a λd f=>tb {D with nx:=N,ct:=N,bk:=D.nx} d f):=by
 refine⟨λi m σ H=>m=n-i/\i<=n/\b i σ H,⟨n,by simp,ZU _,h0⟩,?_⟩;rintro i m σ H ⟨rfl,q,p⟩;by_cases h:i<n
 ·refine .inr ⟨h,b (i+1),λc a l=>⟨n-(i+1),by lia,rfl,h,l⟩,λx a y=>?_⟩;obtain⟨e,y⟩:=y;subst e y;exact hs i σ _ h p
 ·have e:i=n:=by lia
  subst e;exact .inl ⟨Zg _,k σ H p⟩
abbrev R2:=V->V->Hp->VK->Prop
def gF(X:Cx)(f:aa->aa->Sem aa)(r:R2):Prop:=
 ∀(b:List (ae×aw))(s:af)(a:St)(H:Hp)(x y:V)(v u:aa)(Q:VK),Inv X b a H s->RelV x v->RelV y u->r x y H Q ->
  ag (aj X.prog X.w) X.A (f v u) (EP X b a Q) X.xe s
def QZ(X:Cx)(f:aa->Sem aa)(r:V->Hp->VK->Prop):Prop:=
 ∀(b:List (ae×aw))(s:af)(a:St)(H:Hp)(x:V)(v:aa)(Q:VK),Inv X b a H s->RelV x v->r x H Q ->
  ag (aj X.prog X.w) X.A (f v) (EP X b a Q) X.xe s
def iO(X:Cx)(f:aa)(r:List V->Hp->VK->Prop):Prop:=
 ∀(d:List (ae×aw))(s:af)(b:St)(H:Hp)(c:List V)(a:List aa)(Q:VK),Inv X d b H s->Vals c a->r c H Q ->
  ag (aj X.prog X.w) X.A (call f a) (EP X d b Q) X.xe s
def nh(r:R2)(b tb:TE):TE:=λa H Q=>b a H λx c=>tb a c λy d=>r x y d Q
def K9(r:V->Hp->VK->Prop)(a:TE):TE:=λc H Q=>a c H λx b=>r x b Q
inductive rI_(C:Int->Int->Prop)(g:Int->Int->V)(x y:V)(H:Hp)(Q:VK):Prop
 |mk(i:_)(j:_)(e0:x=.int i)(e1:y=.int j)(e2:C i j)(e3:Q (g i j) H)
def rI(C:Int->Int->Prop)(g:Int->Int->V):R2:=λx y H Q=>rI_ C g x y H Q
inductive LC(g:Int->Int->V)(x y:V)(H:Hp)(Q:VK):Prop
 |mk(i:_)(j:_)(e0:x=.int i)(e1:y=.int j)(e2:Q (g i j) H)
def om(g:Int->Int->V):R2:=λx y H Q=>LC g x y H Q
inductive rU_(g:Int->V)(x:V)(H:Hp)(Q:VK):Prop
 |mk(i:_)(e0:x=.int i)(e1:Q (g i) H)
def rU(g:Int->V):V->Hp->VK->Prop:=λx H Q=>rU_ g x H Q
section
variable{X:Cx}{a b c:ar}{ta tb tc:TE}{pos:aA}
theorem Ac(C:PE X a ta)(hb:PE X b tb){e:List (ae×aw)}{s:af}{σ:St}{H:Hp}{R:V->V->Hp->Prop}(I:Inv X e σ H s)
  (h:ta σ H λx i=>tb σ i λy d=>R x y d){Q:aa->af->Prop}{f:aa->aa->Sem aa}
  (m:∀v u g x y d,Inv X e σ d g->RelV x v->RelV y u->R x y d->ag (aj X.prog X.w) X.A (f v u) Q X.xe g):
  ag (aj X.prog X.w) X.A (eval a X.env) (λv j=>ag (aj X.prog X.w) X.A (eval b X.env) (λu w=>ag (aj X.prog X.w) X.A (f v u) Q X.xe w) X.xe j) X.xe s:=by
 refine bC (C e s σ H _ I h) λv p ⟨x,i,r,B,q⟩=>?_;refine bC (hb e p σ i _ r q) λu g ⟨y,d,k,A,l⟩=>?_;exact m v u g x y d k B A l
theorem cy{d:Operator}{r:R2}(g:gF X (binaryOp d) r)(p:PE X a ta)(hb:PE X b tb):PE X (.BinOp a d b pos) (nh r ta tb):=by
 intro j s e H Q I h;exact wpAny_BinOp (Ac p hb I h λv u m x y k f i l q=>g j m e k x y v u Q f i l q)
theorem Dv{d:UnaryOp}{r:V->Hp->VK->Prop}(j:QZ X (unaryOp d) r)(l:PE X a ta):PE X (.UnaryOp d a pos) (K9 r ta):=by
 intro f s e H Q I h;exact UnaryOp_ (bC (l f s e H _ I h) λv i ⟨x,g,p,m,k⟩=>j f i e g x v Q p m k)
theorem DA{f:aa->aa->Sem aa}{C:Int->Int->Prop}{g:Int->Int->Int}
  (d:∀(i j:Int)(t u:Tok)(s:af)(Q:aa->af->Prop)(E:aa->af->Prop),C i j->Q (.int (g i j) s.toks) {s with toks:=s.toks+1}->ag (aj X.prog X.w) X.A (f (.int i t) (.int j u)) Q E s):
  gF X f (rI C λi j=>.int (g i j)):=by
 intro r s p H x y v u Q I k m h;obtain⟨i,j,rfl,rfl,l,q⟩:=h;obtain⟨t,rfl⟩:=k;obtain⟨e,rfl⟩:=m;exact d i j t e s _ _ l ⟨.int (g i j),H,I.tok _,⟨_,rfl⟩,q⟩
theorem tW{f:aa->aa->Sem aa}{g:Int->Int->Int}
  (d:∀(i j:Int)(t u:Tok)(s:af)(Q:aa->af->Prop)(E:aa->af->Prop),Q (.int (g i j) s.toks) {s with toks:=s.toks+1}->ag (aj X.prog X.w) X.A (f (.int i t) (.int j u)) Q E s):
  gF X f (om λi j=>.int (g i j)):=by
 intro p s m H x y v u Q I k l h;obtain⟨i,j,rfl,rfl,q⟩:=h;obtain⟨t,rfl⟩:=k;obtain⟨e,rfl⟩:=l;exact d i j t e s _ _ ⟨.int (g i j),H,I.tok _,⟨_,rfl⟩,q⟩
theorem tX{f:aa->aa->Sem aa}{g:Int->Int->Bool}
  (d:∀(i j:Int)(t u:Tok)(s:af)(Q:aa->af->Prop)(E:aa->af->Prop),Q (.bool (g i j)) s->ag (aj X.prog X.w) X.A (f (.int i t) (.int j u)) Q E s):
  gF X f (om λi j=>.bl (g i j)):=by
 intro p s m H x y v u Q I k l h;obtain⟨i,j,rfl,rfl,q⟩:=h;obtain⟨t,rfl⟩:=k;obtain⟨e,rfl⟩:=l;exact d i j t e s _ _ ⟨.bl (g i j),H,I,rfl,q⟩
def Rp(i j:Int):Prop:=0<j/\j<1073741824
def As(i j:Int):Prop:=0<=j/\j<=1000000/\i.natAbs<2^64
def sd(i j:Int):Prop:=(-(2^64)<i/\i<2^64)\/(-(2^64)<j/\j<2^64)
theorem sd.ok{i j:Int}(h:sd i j):IntMulOk i j:=by
 rcases h with⟨h1,h2⟩|⟨h1,h2⟩
 ·exact .of_left (intBits_le_64 h1 h2)
 ·exact .of_right (intBits_le_64 h1 h2)
theorem iR:gF X (binaryOp .Add) (om λi j=>.int (i+j)):=tW λ_ _ _ _ _ _ _ q=>add_int q
theorem pQ:gF X (binaryOp .Sub) (om λi j=>.int (i-j)):=tW λ_ _ _ _ _ _ _ q=>sub_int q
theorem pP:gF X (binaryOp .Mult) (rI sd λi j=>.int (i*j)):=DA λ_ _ _ _ _ _ _ d q=>mul_int q d.ok
theorem IV:gF X (binaryOp .FloorDiv) (rI Rp λi j=>.int (i/j)):=DA λi j _ _ _ _ _ d q=>by
 have h1:(0:Int)<j:=d.1;have h2:j<1073741824:=d.2;exact floordiv_int 'a' (by rw[Int.fdiv_eq_ediv_of_nonneg i 'a'];exact q) (.inl (PyProof.noPylong_small 'a'))
theorem A2:gF X (binaryOp .Mod) (rI (λ_ j=>0<j) λi j=>.int (i%j)):=DA λi j _ _ _ _ _ d q=>by
 have h1:(0:Int)<j:=d;exact mod_int' 'a' (by rw[Int.fmod_eq_emod_of_nonneg i 'a'];exact q)
theorem xF7:gF X (binaryOp .Pow) (rI As λi j=>.int (i^j.toNat)):=DA λ_ _ _ _ _ _ _ d q=>pow_int_small d.1 d.2.1 d.2.2 q
theorem xF8:gF X (binaryOp .LShift) (rI As λi j=>.int (i*2^j.toNat)):=DA λ_ _ _ _ _ _ _ d q=>lshift_int_small d.1 d.2.1 d.2.2 q
theorem xF9:gF X (binaryOp .BitAnd) (om λi j=>.int (Builtin.bitAnd i j)):=tW λ_ _ _ _ _ _ _ q=>and_int q
theorem V6:gF X (inplaceOp .Add) (om λi j=>.int (i+j)):=tW λ_ _ _ _ _ _ _ q=>iadd_int q
theorem unI{f:aa->Sem aa}{g:Int->Int}
  (d:∀(i:Int)(t:Tok)(s:af)(Q:aa->af->Prop)(E:aa->af->Prop),Q (.int (g i) s.toks) {s with toks:=s.toks+1}->ag (aj X.prog X.w) X.A (f (.int i t)) Q E s):
  QZ X f (rU λi=>.int (g i)):=by
 intro k s j H x v Q I e h;obtain⟨i,rfl,q⟩:=h;obtain⟨t,rfl⟩:=e;exact d i t s _ _ ⟨.int (g i),H,I.tok _,⟨_,rfl⟩,q⟩
theorem Dc:QZ X (unaryOp .USub) (rU λi=>.int (-i)):=unI λ_ _ _ _ _ q=>neg_int q
end
def Cm:V->V->Bool
 |.cA,.cA=>true|.cA,.int _=>true|.int _,.cA=>true|.cA,.bl _=>true|.bl _,.cA=>true|.cA,.str _=>true|.str _,.cA=>true
 |.int _,.int _=>true|.bl _,.bl _=>true|.str _,.str _=>true|.p4 _,.p4 _=>true
 |.int _,.str _=>true|.str _,.int _=>true|.bl _,.str _=>true|.str _,.bl _=>true
 |_,_=>false
def rEq:R2:=λx y H Q=>Cm x y=true/\Q (.bl (decide (x=y))) H
def rNe:R2:=λx y H Q=>Cm x y=true/\Q (.bl (!decide (x=y))) H
theorem V5{i j:Int}:decide (V.int i=V.int j)=(i==j):=by
 rw[Y2];simp
theorem R8{i j:Bool}:decide (V.bl i=V.bl j)=(i==j):=by
 rw[Y2];simp
theorem V4{i j:aq}:decide (V.str i=V.str j)=(i==j):=by
 rw[Y2];simp
theorem V3{i j:Array UInt8}:decide (V.p4 i=V.p4 j)=(i.toList==j.toList):=by
 rw[Y2];cases i;cases j;simp
section
variable{X:Cx}{a b c:ar}{ta tb tc:TE}{pos:aA}
theorem gB{f:List (ae×aw)}{σ:St}{H:Hp}{s:af}{Q:VK}{k d:Bool}(I:Inv X f σ H s)(q:Q (.bl k) H)(e:k=d):EP X f σ Q (.bool d) s:=by
 subst e;exact⟨.bl k,H,I,rfl,q⟩
theorem mY:gF X (compareOp .Eq) rEq:=by
 intro l s k H x y v u Q I g d h;obtain⟨f,q⟩:=h;cases x with
 |cA=>
  cases g;cases y with
  |cA=>cases d;exact PySem.EqNone.eq_none_none (gB I q 'b')
  |bl j=>cases d;exact PySem.EqNone.eq_none_bool (gB I q 'b')
  |int j=>obtain⟨e,rfl⟩:=d;exact PySem.EqNone.eq_none_int (gB I q 'b')
  |str j=>obtain⟨e,rfl⟩:=d;exact PySem.EqNone.eq_none_str (gB I q 'b')
  |_=>exact absurd (show false=true from f) ZG
 |bl i=>
  cases g;cases y with
  |cA=>cases d;exact PySem.EqNone.eq_bool_none (gB I q 'b')
  |bl j=>cases d;exact eq_bool (gB I q R8)
  |str j=>obtain⟨e,rfl⟩:=d;exact PySem.EqMixed.eq_bool_str (gB I q 'b')
  |_=>exact absurd (show false=true from f) ZG
 |int i=>
  obtain⟨t,rfl⟩:=g;cases y with
  |cA=>cases d;exact PySem.EqNone.eq_int_none (gB I q 'b')
  |int j=>obtain⟨e,rfl⟩:=d;exact eq_int (gB I q V5)
  |str j=>obtain⟨e,rfl⟩:=d;exact PySem.EqMixed.eq_int_str (gB I q 'b')
  |_=>exact absurd (show false=true from f) ZG
 |str i=>
  obtain⟨t,rfl⟩:=g;cases y with
  |cA=>cases d;exact PySem.EqNone.eq_str_none (gB I q 'b')
  |bl j=>cases d;exact PySem.EqMixed.eq_str_bool (gB I q 'b')
  |int j=>obtain⟨e,rfl⟩:=d;exact PySem.EqMixed.eq_str_int (gB I q 'b')
  |str j=>obtain⟨e,rfl⟩:=d;exact eq_str (gB I q V4)
  |_=>exact absurd (show false=true from f) ZG
 |p4 i=>
  obtain⟨t,rfl⟩:=g;cases y with
  |p4 j=>obtain⟨e,rfl⟩:=d;exact PySem.W.eq_bytes (gB I q V3)
  |_=>exact absurd (show false=true from f) ZG
 |_=>cases y<;>exact absurd (show false=true from f) ZG
theorem qH:gF X (compareOp .NotEq) rNe:=by
 intro l s k H x y v u Q I g d h;obtain⟨f,q⟩:=h;cases x with
 |cA=>
  cases g;cases y with
  |cA=>cases d;exact PySem.EqNone.ne_none_none (gB I q 'b')
  |bl j=>cases d;exact PySem.EqNone.ne_none_bool (gB I q 'b')
  |int j=>obtain⟨e,rfl⟩:=d;exact PySem.EqNone.ne_none_int (gB I q 'b')
  |str j=>obtain⟨e,rfl⟩:=d;exact PySem.EqNone.ne_none_str (gB I q 'b')
  |_=>exact absurd (show false=true from f) ZG
 |bl i=>
  cases g;cases y with
  |cA=>cases d;exact PySem.EqNone.ne_bool_none (gB I q 'b')
  |bl j=>cases d;exact ne_bool (gB I q (Yo not R8))
  |str j=>obtain⟨e,rfl⟩:=d;exact PySem.EqMixed.ne_bool_str (gB I q 'b')
  |_=>exact absurd (show false=true from f) ZG
 |int i=>
  obtain⟨t,rfl⟩:=g;cases y with
  |cA=>cases d;exact PySem.EqNone.ne_int_none (gB I q 'b')
  |int j=>obtain⟨e,rfl⟩:=d;exact ne_int (gB I q (Yo not V5))
  |str j=>obtain⟨e,rfl⟩:=d;exact PySem.EqMixed.ne_int_str (gB I q 'b')
  |_=>exact absurd (show false=true from f) ZG
 |str i=>
  obtain⟨t,rfl⟩:=g;cases y with
  |cA=>cases d;exact PySem.EqNone.ne_str_none (gB I q 'b')
  |bl j=>cases d;exact PySem.EqMixed.ne_str_bool (gB I q 'b')
  |int j=>obtain⟨e,rfl⟩:=d;exact PySem.EqMixed.ne_str_int (gB I q 'b')
  |str j=>obtain⟨e,rfl⟩:=d;exact ne_str (gB I q (Yo not V4))
  |_=>exact absurd (show false=true from f) ZG
 |p4 i=>
  obtain⟨t,rfl⟩:=g;cases y with
  |p4 j=>obtain⟨e,rfl⟩:=d;exact PySem.W.ne_bytes (gB I q (Yo not V3))
  |_=>exact absurd (show false=true from f) ZG
 |_=>cases y<;>exact absurd (show false=true from f) ZG
theorem mi:gF X (compareOp .Lt) (om λi j=>.bl (decide (i<j))):=tX λ_ _ _ _ _ _ _ q=>lt_int q
theorem tV:gF X (compareOp .LtE) (om λi j=>.bl (decide (i<=j))):=tX λ_ _ _ _ _ _ _ q=>le_int q
theorem Du:gF X (compareOp .Gt) (om λi j=>.bl (decide (j<i))):=tX λ_ _ _ _ _ _ _ q=>gt_int q
theorem Ti:gF X (compareOp .GtE) (om λi j=>.bl (decide (j<=i))):=tX λ_ _ _ _ _ _ _ q=>ge_int q
theorem cP(b:ar){d:CmpOp}(h:d≠.In:=by decide)(h2:d≠.NotIn:=by decide):behindInMarks d b=false:=by
 have f:(d==CmpOp.In)=false:=by cases d<;>first|rfl|exact absurd rfl h
 have e:(d==CmpOp.NotIn)=false:=by cases d<;>first|rfl|exact absurd rfl h2
 cases b<;>simp[behindInMarks,f,e]
theorem oy{d:CmpOp}{r:R2}(i:gF X (compareOp d) r)(w:PE X a ta)(hb:PE X b tb)(e:behindInMarks d b=false):PE X (.Compare a [d] [b] pos) (nh r ta tb):=by
 intro k s f H Q I h;exact wpAny_Compare1 (Ac w hb I h λv u p x y l g j m q=>i k p f l x y v u Q g j m q) e
inductive xy(Q:Bool->Hp->Prop)(x:V)(H':Hp):Prop
 |mk(k:_)(e0:x=.bl k)(e1:Q k H')
def xN0(t:TE):TT:=λd H Q=>t d H λx e=>xy Q x e
theorem dI{f:CmpOp}{r:R2}(m:gF X (compareOp f) r)(l:PE X a ta)(hb:PE X b tb)(i:behindInMarks f b=false):PT X (.Compare a [f] [b] pos) (xN0 (nh r ta tb)):=by
 intro g s d H Q I h;refine wpAny_isTrue_Compare1 (bC (l g s d H _ I h) λv q ⟨x,p,C,F,w⟩=>bC (hb g q d p _ C w) λu K ⟨y,J,j,E,L⟩=>
  bC (m g K d J x y v u _ j F E L) λc M ⟨z,A,D,G,k,e,B⟩=>?_) i
 subst e;cases G;exact YT ⟨A,D,B⟩
inductive sR(r':R2)(tc:TE)(σ:St)(Q:VK)(y z:V)(H3:Hp):Prop
 |mk(k:_)(e0:z=.bl k)(e1:(if k=true then tc σ H3 λw' H4=>r' y w' H4 Q else Q (.bl false) H3))
def xG1(r g:R2)(ta tb tc:TE):TE:=λd H Q=>ta d H λx e=>tb d e λy h=>r x y h λz f=>sR g tc d Q y z f
theorem HH{i j:CmpOp}{r p:R2}(J:gF X (compareOp i) r)(C:gF X (compareOp j) p)(G:PE X a ta)(hb:PE X b tb)(hc:PE X c tc)
  (A:lastMarks [i,j] [b,c]=false:=by with_unfolding_all rfl):PE X (.Compare a [i,j] [b,c] pos) (xG1 r p ta tb tc):=by
 intro g s f H Q I h;refine Compare_chain (bC (G g s f H _ I h) λv O ⟨x,N,T,V,R⟩=>chain_link (bC (hb g O f N _ T R) λu Z ⟨y,Y,E,w,K⟩=>
  bC (J g Z f Y x y v u _ E V w K) λd W ⟨z,l,q,U,k,e,m⟩=>?_)) A
 subst e;cases U;refine YT ?_;cases k with
 |false=>exact ite_ff ⟨.bl false,l,q,rfl,m⟩
 |true=>exact ite_tt (chain_last (bC (hc g W f l _ q m) λD P ⟨L,S,F,M,B⟩=>C g P f S y L u D Q F w M B))
theorem IA:(sizeLine:Nat)<2^63:=by rw[YV];decide
theorem lG{x:V}{us:List aa}(r:Vals [x] us):∃u,us=[u]/\RelV x u:=by
 cases r with
 |cons e d=>cases d;exact⟨_,rfl,e⟩
theorem G8{x y:V}{us:List aa}(r:Vals [x,y] us):∃u d,us=[u,d]/\RelV x u/\RelV y d:=by
 cases r with
 |cons h f=>
  cases f with
  |cons g e=>cases e;exact⟨_,_,rfl,h,g⟩
inductive mM(xs:List V)(H:Hp)(Q:VK):Prop
 |mk(i:_)(j:_)(aM:xs=[.int i,.int j])(dh:Q (.int (if j>i then j else i)) H)
theorem q53(hc:X.calm=true):iO X (.builtin "max") mM:=by
 intro m s f H p v Q I r h;obtain⟨i,j,rfl,q⟩:=h;obtain⟨u,g,rfl,⟨t,rfl⟩,⟨e,rfl⟩⟩:=G8 r;refine max_two_ints (I.ok.hd hc) λl w k=>⟨_,H,I.kept k,?_,q⟩;by_cases d:j>i
 ·rw[Zr d,Zr d];exact⟨_,rfl⟩
 ·rw[Zi d,Zi d];exact⟨_,rfl⟩
inductive mK(xs:List V)(H:Hp)(Q:VK):Prop
 |mk(i:_)(j:_)(aM:xs=[.int i,.int j])(dh:Q (.int (if j<i then j else i)) H)
theorem q54(hc:X.calm=true):iO X (.builtin "min") mK:=by
 intro m s f H p v Q I r h;obtain⟨i,j,rfl,q⟩:=h;obtain⟨u,g,rfl,⟨t,rfl⟩,⟨e,rfl⟩⟩:=G8 r;refine min_two_ints (I.ok.hd hc) λl w k=>⟨_,H,I.kept k,?_,q⟩;by_cases d:j<i
 ·rw[Zr d,Zr d];exact⟨_,rfl⟩
 ·rw[Zi d,Zi d];exact⟨_,rfl⟩
theorem HV:iO X (.type "int") (λd H Q=>(∃i,d=[.int i]/\Q (.int i) H)\/∃k,d=[.bl k]/\Q (.int (if k then 1 else 0)) H):=by
 intro j s g H d f Q I r h;rcases h with⟨i,rfl,q⟩|⟨k,rfl,q⟩
 ·obtain⟨u,rfl,t,rfl⟩:=lG r;exact call_int_int ⟨.int i,H,I,⟨_,rfl⟩,q⟩
 ·obtain⟨u,rfl,e⟩:=lG r;cases e;exact call_int_bool ⟨.int (if k then 1 else 0),H,I.tok _,⟨_,rfl⟩,q⟩
end
structure nY(h:ao)(x dx C:ae)(mA:aq->Option aa):Prop where
 obj:h.get? x=some (PySem.W.instObj C dx)
 ns:h.Ns1 dx mA
 ne:dx≠x
theorem q55{h:ao}{c:ae}{f:aq->Option aa}(n:h.Ns1 c f):∃d,h.get? c=some d/\∀name,PySem.W.lookIn name d=some (f name):=by
 obtain⟨o,b,r,k,i,l,_,g⟩:=n;refine⟨o,k,λname=>?_⟩;have e:=g name;unfold nsFind findBy at e;rw[<- Array.find?_toList]at e;unfold PySem.W.lookIn;rw[i];dsimp only;split
 ·rename_i y q;rw[q]at e;exact Yo some e
 ·rename_i q;rw[q]at e;have a:b.toList.any (·.refKey)=false:=by
   rw[Wu];intro y p;obtain⟨z,t,m⟩:=l y (Array.mem_toList_iff.mp p);simp[DictEntry.refKey,m]
  have j:¬b.toList.any (·.refKey)=true:=by rw[a];exact ZG
  rw[Zi j];exact Yo some e
theorem nY.look{h:ao}{x c C:ae}{b:aq->Option aa}(I:nY h x c C b):∃a,PySem.W.InstAt h x (PySem.W.instObj C c) C (some a)/\∀name,PySem.W.lookIn name a=some (b name):=
 let ⟨a,ho,hl⟩:=q55 I.ns
 ⟨a,⟨I.obj,rfl,rfl,ho⟩,hl⟩
section
variable{x dx C f:ae}{mA:aq->Option aa}{name:aq}{v:aa}
theorem xw2{a:Bool}{Q:aa->af->Prop}(X:K.In s.heap)(I:nY s.heap x dx C mA)(i:PySem.W.plainGet K C name=true)(b:PySem.W.hasDictIn K C=true)
  (c:PySem.W.findIn K (.ref C) name=some none) (e:mA name=some v) (d:PySem.W.handedIn v=true) (h:Q v {s with toks:=s.toks+1}):
  ag (aj prog w) A (getAttr (.ref x) name a) Q E s:=by
 obtain⟨j,J,g⟩:=I.look;exact PySem.W.get_value X J (WZ i).1 (PySem.W.findObj_own b c rfl (by rw[g,e])) d h
theorem xj7{pl:Sem Bool}{Q:aa×List aa->af->Prop}(X:K.In s.heap)(I:nY s.heap x dx C mA)(a:PySem.W.plainGet K C name=true)
  (e:PySem.W.findIn K (.ref C) name=some (some (.ref f))) (g:PySem.W.isFn K (.ref f)=true) (c:mA name=none) (h:Q (.ref f,[.ref x]) s):
  ag (aj prog w) A (getMethod (.ref x) name pl) Q E s:=by
 obtain⟨b,J,d⟩:=I.look;exact PySem.W.method_fn X J (WZ a).1 (WZ a).2 e (XY.mp g) (by show(PySem.W.lookIn name b).map (·.isSome)=some false;rw[d,c];rfl) h
theorem xw3{k:List aq}{Q:Unit->af->Prop}(X:K.In s.heap)(I:nY s.heap x dx C mA)
  (hs:PySem.W.findIn K (.ref C) "__setattr__"=some (some (.builtin "object.__setattr__"))) (p:PySem.W.plainOver K C=true) (m:PySem.W.takerIn K C name=some none) (B:PySem.W.hasDictIn K C=true)
  (hw:PySem.Within mA k) (hsz:k.length<=sizeLine)
  (h:∀c,nY c x dx C (λy=>if y=name then some v else mA y)->Heap.SameBut dx s.heap c->Q () {s with heap:=c,toks:=s.toks+2}):
  ag (aj prog w) A (setAttr (.ref x) name v) Q E s:=by
 obtain⟨G,J,M⟩:=I.look;refine PySem.W.set_plain X J hs (PySem.W.osa_open (s:={s with toks:=s.toks+1}) (r:=none) X J p m λb=>?_);obtain⟨L,u,F⟩:=PySem.W.any_some B;have q:s.heap.get? x=some ⟨.ref C,some dx,.plain,#[]⟩:=I.obj;refine Za (Zc (Za (Za (wpAny_loadPart q (Za (PySem.W.Looks.here (s:={s with toks:=s.toks+1}) (PySem.W.looks_clsIn X u) ?_))))));rw[F];refine Zc (a:=some dx) (Za (Zc (Za ?_)));refine wpAny_nsSet1 (s:={s with toks:=s.toks+1}) I.ns λc j i=>?_;obtain⟨H,D,l,d,e,g⟩:=j.count (PySem.Within.cons name v hw);refine Za (wpAny_lookBehind d (by rw[e];exact pastItsLine_dict (ZN g (by rw[ZD];lia))) ?_);exact Zc (h _ ⟨(i.2 _ (Z2 I.ne)).trans I.obj,j,I.ne⟩ i)
theorem xj8{R:Result->af->Prop}{vs:List aa}{b:List (aq×aa)}(X:K.In s.heap)(c:PySem.W.makesIn K C=true)
  (e:PySem.W.findIn K (.ref C) "__init__"=some (some (.ref f))) (i:PySem.W.typeIn K (.ref f)=some (.type "function"))
  (h:codeAny (aj prog w) (A.under (.builtin "type.__call__" ⟨.ref C::vs,b⟩)) (.call (.ref f) ⟨.ref (s.heap.objs.size+1)::vs,b⟩) (PySem.W.InitBack (s.heap.objs.size+1) R)
   {s with heap:=(s.heap.push PySem.W.emptyDict).push (PySem.W.instObj C s.heap.objs.size)}):
  codeAny (aj prog w) A (.call (.ref C) ⟨vs,b⟩) R s:=by
 obtain⟨j,g,d,t,k⟩:=s;exact PySem.W.make_core (PySem.W.makes_of X c) (PySem.W.looks_findIn X e) (λa=>PySem.W.bind_fn X a i) (.inl rfl) h
end
def aY(f:aq)(v:V):List (aq×V)->List (aq×V)
 |[]=>[(f,v)]
 |(g,x)::r=>if g=f then(g,v)::r else(g,x)::aY f v r
theorem dN(f g:aq)(v:V):∀fs:List (aq×V),(aY f v fs).lookup g=if g=f then some v else fs.lookup g
 |[]=>by
  show List.lookup g [(f,v)]=_;by_cases h:g=f
  ·have hb:(g==f)=true:=XY.mpr h;simp only[List.lookup,hb,Zr h]
  ·have hb:(g==f)=false:=YD.mpr h;simp only[List.lookup,hb,Zi h]
 |(k,x)::r=>by
  have b:=dN f g v r;rw[show aY f v ((k,x)::r)=(if k=f then(k,v)::r else(k,x)::aY f v r)from rfl];by_cases a:k=f
  ·rw[Zr a];by_cases h:g=k
   ·have hb:(g==k)=true:=XY.mpr h;simp only[List.lookup,hb,Zr (h.trans a)]
   ·have hb:(g==k)=false:=YD.mpr h;simp only[List.lookup,hb,Zi (λe:g=f=>h (e.trans a.symm))]
  ·rw[Zi a];by_cases h:g=k
   ·have hb:(g==k)=true:=XY.mpr h;simp only[List.lookup,hb,Zi (λe:g=f=>a (h.symm.trans e))]
   ·have hb:(g==k)=false:=YD.mpr h;simp only[List.lookup,hb];exact b
theorem M1(f:aq)(v:V):∀fs:List (aq×V),f∈(aY f v fs).map (·.1)/\∀g,g∈fs.map (·.1)->g∈(aY f v fs).map (·.1)
 |[]=>⟨by simp[aY],λg h=>by simp at h⟩
 |(k,x)::r=>by
  obtain⟨b,c⟩:=M1 f v r;rw[show aY f v ((k,x)::r)=(if k=f then(k,v)::r else(k,x)::aY f v r)from rfl];by_cases a:k=f
  ·rw[Zr a];subst a;exact⟨by simp,λg h=>by simpa using h⟩
  ·rw[Zi a];refine⟨?_,λg h=>?_⟩
   ·rw[ZL];exact Zn _ b
   ·rw[ZL]at h ⊢;rcases ZB.mp h with e|e
    ·exact ZB.mpr (.inl e)
    ·exact Zn _ (c g e)
theorem VP(f:aq)(v:V):∀fs:List (aq×V),(aY f v fs).length<=fs.length+1
 |[]=>by simp[aY]
 |(k,x)::r=>by
  have b:=VP f v r;rw[show aY f v ((k,x)::r)=(if k=f then(k,v)::r else(k,x)::aY f v r)from rfl];by_cases a:k=f
  ·rw[Zr a,ZD,ZD];lia
  ·rw[Zi a,ZD,ZD];lia
theorem fZ.some_of{v:V}{o:Option aa}(r:fZ (some v) o):∃u,o=some u/\RelV v u:=by
 cases o with
 |none=>exact(show False from r).elim
 |some u=>exact⟨u,rfl,r⟩
theorem fZ.none_of{o:Option aa}(r:fZ none o):o=none:=by
 cases o with
 |none=>rfl
 |some u=>exact(show False from r).elim
theorem q56{v:V}{u:aa}(r:RelV v u):PySem.W.handedIn u=true:=by
 cases v with
 |cA=>cases(show u=Value.none from r);rfl
 |bl b=>cases(show u=Value.bool b from r);rfl
 |int i=>obtain⟨t,e⟩:=(show ∃t,u=Value.int i t from r);cases e;rfl
 |str x=>obtain⟨t,e⟩:=(show ∃t,u=Value.str x t from r);cases e;rfl
 |p4 b=>obtain⟨t,e⟩:=(show ∃t,u=Value.bytes b t from r);cases e;rfl
 |zT b=>obtain⟨t,e⟩:=(show ∃t,u=Value.float b t from r);cases e;rfl
 |ref a=>cases(show u=Value.ref a from r);rfl
 |ty n=>cases(show u=Value.type n from r);rfl
section
variable{H H':Hp}{h h':ao}{a C dx:ae}{fs fs':List (aq×V)}
theorem IU(c:eV P w H h)(e:H a=some (.ins C dx fs)):∃b,nY h a dx C b/\(∀f,fZ (fs.lookup f) (b f))/\PySem.Within b (fs.map (·.1))/\fs.length<=1000/\H dx=some (.own a):=by
 obtain⟨d,z,g,ob,b,n,r,q⟩:=(show bV P w H h a (.ins C dx fs)from c a _ e);exact⟨b,⟨ob,n,g⟩,r,q,z,d⟩
end
structure pL(K:PySem.W.Frag)(C:ae):Prop where
 pg:PySem.W.plainGet K C Str.empty=true
 hd:PySem.W.hasDictIn K C=true
 po:PySem.W.plainOver K C=true
 sa:PySem.W.findIn K (.ref C) "__setattr__"=some (some (.builtin "object.__setattr__"))
theorem pL.get{K:PySem.W.Frag}{C:ae}(c:pL K C)(f:aq):PySem.W.plainGet K C f=true:=c.pg
def a_(K:PySem.W.Frag)(C:ae)(f:aq):Prop:=PySem.W.findIn K (.ref C) f=some none
theorem a_.BR{K:PySem.W.Frag}{C:ae}{f:aq}(n:a_ K C f):PySem.W.takerIn K C f=some none:=by
 unfold PySem.W.takerIn;rw[show PySem.W.findIn K (.ref C) f=some none from n]
 rfl
structure Meth(K:PySem.W.Frag)(C:ae)(m:aq)(f:ae):Prop where
 at_:PySem.W.findIn K (.ref C) m=some (some (.ref f))
 fn:PySem.W.isFn K (.ref f)=true
 kp:PySem.W.keepIn K (.ref f)=true
section
variable{X:Cx}{j4:List (ae×aw)}{σ:St}{H:Hp}{s:af}{a C dx:ae}{fs:List (aq×V)}{f:aq}{v:V}{A:au}{E:aa->af->Prop}
theorem qZ4{b:Bool}{Q:aa->af->Prop}(I:Inv X j4 σ H s)(e:H a=some (.ins C dx fs))(c:pL X.K C)(n:a_ X.K C f)(l:fs.lookup f=some v)
  (h:∀u d,Inv X j4 σ H d->RelV v u->Q u d):ag (aj X.prog X.w) A (getAttr (.ref a) f b) Q E s:=by
 obtain⟨j,O,r,_,_,_⟩:=IU I.aW e;obtain⟨u,i,g⟩:=fZ.some_of (v:=v) (o:=j f) (by rw[<- l];exact r f);exact xw2 I.gD O (c.get f) c.hd n i (q56 g) (h u _ (I.tok _) g)
theorem qZ5{m:aq}{g:ae}{pl:Sem Bool}{Q:aa×List aa->af->Prop}(I:Inv X j4 σ H s)(e:H a=some (.ins C dx fs))(c:pL X.K C)(k:Meth X.K C m g)(l:fs.lookup m=none)
  (h:Q (.ref g,[.ref a]) s):ag (aj X.prog X.w) A (getMethod (.ref a) m pl) Q E s:=by
 obtain⟨d,O,r,_,_,_⟩:=IU I.aW e;have b:d m=none:=fZ.none_of (by rw[<- l];exact r m);exact xj7 I.gD O (c.get m) k.at_ k.fn b h
theorem qZ6{y:V}{u:aa}{Q:Unit->af->Prop}(I:Inv X j4 σ H s)(e:H a=some (.ins C dx fs))(c:pL X.K C)(n:a_ X.K C f)(G:fs.length<1000)(p:RelV y u)
  (h:∀i,Inv X j4 σ (upd H a (.ins C dx (aY f y fs))) i->Q () i):ag (aj X.prog X.w) A (setAttr (.ref a) f u) Q E s:=by
 obtain⟨l,O,r,k,_,j⟩:=IU I.aW e;have w:(fs.map (·.1)).length<=sizeLine:=by rw[Ze,YV];lia
 refine xw3 I.gD O c.sa c.po n.BR c.hd k w λD d F=>h _ ?_;have m:∃o,D.get? dx=some o:=let ⟨o,_,_,e',_⟩:=d.ns;⟨o,e'⟩;refine I.write (x:=a) (e:=dx) (by rw[e];exact True.intro) (.inr j) (λb q hb z=>(F.2 b hb).trans z) m ?_;refine⟨by rw[bo O.ne];exact j,?_,O.ne,d.obj,_,d.ns,λg=>?_,λg B=>?_⟩
 ·have:=VP f y fs;lia
 ·show fZ ((aY f y fs).lookup g) (if g=f then some u else l g);rw[dN];by_cases q:g=f
  ·rw[Zr q,Zr q];exact p
  ·rw[Zi q,Zi q];exact r g
 ·by_cases q:g=f
  ·rw[q];exact(M1 f y fs).1
  ·refine(M1 f y fs).2 g (k g λz=>B ?_);show(if g=f then some u else l g)=none;rw[Zi q];exact z
theorem Inv.made(I:Inv X j4 σ H s):Inv X j4 σ (upd (upd H s.heap.objs.size (.own (s.heap.objs.size+1))) (s.heap.objs.size+1) (.ins C s.heap.objs.size []))
  {s with heap:=(s.heap.push PySem.W.emptyDict).push (PySem.W.instObj C s.heap.objs.size)}:=by
 have d:(s.heap.push PySem.W.emptyDict).get? s.heap.objs.size=some PySem.W.emptyDict:=Zh s.heap rfl;have h:((s.heap.push PySem.W.emptyDict).push (PySem.W.instObj C s.heap.objs.size)).get? (s.heap.objs.size+1)=some (PySem.W.instObj C s.heap.objs.size):=by
  have:=Zh (s.heap.push PySem.W.emptyDict) (o:=PySem.W.instObj C s.heap.objs.size) rfl
  rwa [Yq]at this
 have k:(s.heap.push PySem.W.emptyDict).Ns s.heap.objs.size (λ_=>none):=⟨PySem.W.emptyDict,#[],_,d,rfl,(λe g=>absurd g 'b'),λ_=>rfl⟩;have j:=I.laid (a:=s.heap.objs.size) (o:=.own (s.heap.objs.size+1)) (h':=s.heap.push PySem.W.emptyDict) (t':=s.toks) (λb u q=>Zb _ q) (Zg _) ⟨_,d⟩;refine j.laid (a:=s.heap.objs.size+1) (o:=.ins C s.heap.objs.size []) (t':=s.toks) (λb u q=>Zb _ q) (Wv (Yq _ _)) ?_;have c:s.heap.objs.size≠s.heap.objs.size+1:=Zz (Yw _);refine⟨by rw[bo c,aX],ZU _,c,h,λ_=>none,(Heap.Ns1.of_empty k).at λo q=>Zb _ q,λ_=>True.intro,λy i=>absurd rfl i⟩
theorem xw4{prog:ah}{w:ak}{env:Env}{e:ar}{f:aq}{b:aA}{s:af}{Q:aa->af->Prop}(hb:attributeBase e f env (eval e env)=eval e env)
  (h:ag (aj prog w) A (eval e env) (λo c=>ag (aj prog w) A (getAttr o f true) Q E c) E s):ag (aj prog w) A (eval (.Attribute e f b) env) Q E s:=
 Attribute_any_ h (by rw[arm_eval_Attribute,hb])
end
inductive BX(K:PySem.W.Frag)(f:aq)(Q:VK)(x:V)(H1:Hp):Prop
 |mk(a:_)(C:_)(dx:_)(fs:_)(v:_)(e0:x=.ref a)(e1:H1 a=some (.ins C dx fs))(e2:pL K C)(e3:a_ K C f)(e4:fs.lookup f=some v)(e5:Q v H1)
def Le(K:PySem.W.Frag)(a:TE)(f:aq):TE:=λc H Q=>a c H λx b=>BX K f Q x b
inductive Cp(K:PySem.W.Frag)(f:aq)(y:V)(D:Ends)(σ:St)(x:V)(H2:Hp):Prop
 |mk(a:_)(C:_)(dx:_)(fs:_)(e0:x=.ref a)(e1:H2 a=some (.ins C dx fs))(e2:pL K C)(e3:a_ K C f)(e4:fs.length<1000)(e5:D.nx σ (upd H2 a (.ins C dx (aY f y fs))))
def Lu(K:PySem.W.Frag)(b d:TE)(f:aq):TS:=λD a H=>d a H λy c=>b a c λx e=>Cp K f y D a x e
section
variable{X:Cx}{o e value:ar}{f:aq}{pos pos' jn:aA}{ta tv:TE}
theorem ju(j:PE X e ta)(hb:attributeBase e f X.env (eval e X.env)=eval e X.env):PE X (.Attribute e f pos) (Le X.K ta f):=by
 intro i s b H Q I h;refine xw4 hb (bC (j i s b H _ I h) λu y ⟨x,k,r,g,a,C,A,fs,v,ex,p,c,n,l,q⟩=>?_);subst ex;obtain rfl:u=Value.ref a:=g;exact qZ4 r p c n l λw B d m=>⟨v,k,d,m,q⟩
theorem tI(j:PE X o ta)(A:PE X value tv)(hs:swapsWith value (some (.Attribute o f pos')) pos.line X.env=pure false):PS X (.Assign [.Attribute o f pos'] value pos) (Lu X.K ta tv f):=by
 intro d s b H D I h;refine plainObj_wpAny_Assign_Attribute (bC (A d s b H _ I h) λu p ⟨y,m,v,B,q⟩=>bC (j d p b m _ v q) λi K ⟨x,J,g,k,a,C,F,fs,ex,r,c,n,l,E⟩=>?_) hs;subst ex;obtain rfl:i=Value.ref a:=k;exact qZ6 g r c n l B λG w=>⟨b,_,w,E⟩
end
section
variable{X:Cx}{j4:List (ae×aw)}{σ:St}{H:Hp}{s:af}{A:au}{E:aa->af->Prop}{Q:aa->af->Prop}{c:aa}{b:Bool}
inductive gX(K:PySem.W.Frag)(H:Hp):V->aa->Prop where
 |cA:gX K H .cA (.type "NoneType")
 |bl (x:Bool):gX K H (.bl x) (.type "bool")
 |int (i:Int):gX K H (.int i) (.type "int")
 |str (x:aq):gX K H (.str x) (.type "str")
 |zT (x:UInt64):gX K H (.zT x) (.type "float")
 |lst {a:ae}{xs:List V}(e:H a=some (.lst xs)):gX K H (.ref a) (.type "list")
 |ic {a:ae}{o:aw}{xs:List V}(e:H a=some (.ic o (.lst xs))):gX K H (.ref a) (.type "list")
 |tup {a:ae}{xs:List V}(e:H a=some (.tup xs)):gX K H (.ref a) (.type "tuple")
 |dK {a:ae}{kvs:List (Key×V)}(e:H a=some (.dK kvs)):gX K H (.ref a) (.type "dict")
 |dT {a:ae}{kvs:List (List Key×V)}(e:H a=some (.dT kvs)):gX K H (.ref a) (.type "dict")
 |ins {a C dx:ae}{fs:List (aq×V)}(e:H a=some (.ins C dx fs)) (cl:pL K C) (ha:PySem.W.findIn K (.ref C) "__class__"=some (some (.builtin "object.__class__")))
   (hn:PySem.W.specialIn K (.builtin "object.__class__") "__get__"=some (some (.builtin "getset_descriptor.__get__"))) (lN:PySem.W.takesIn K (.builtin "object.__class__")=some true)
   (hm:PySem.W.mroIn K C (.type "object")=some true):gX K H (.ref a) (.ref C)
theorem q57{x:V}{u t:aa}(I:Inv X j4 σ H s)(d:RelV x u)(ty:gX X.K H x t)(e:PySem.W.kitOne X.K t c=some b)(h:∀B,Q (.bool b) {s with toks:=B}):
  ag (aj X.prog X.w) A (call (.builtin "isinstance") [u,c]) Q E s:=by
 cases ty with
 |cA=>cases(show u=Value.none from d);exact YA PySem.W.kitx_none I.gD True.intro e (λz=>nomatch z) h
 |bl y=>cases(show u=Value.bool y from d);exact YA PySem.W.kitx_bool I.gD True.intro e (λz=>nomatch z) h
 |int i=>obtain⟨t,q⟩:=(show ∃t,u=Value.int i t from d);cases q;exact YA PySem.W.kitx_int I.gD True.intro e (λz=>nomatch z) h
 |str y=>obtain⟨t,q⟩:=(show ∃t,u=Value.str y t from d);cases q;exact YA PySem.W.kitx_str I.gD True.intro e (λz=>nomatch z) h
 |zT y=>obtain⟨t,q⟩:=(show ∃t,u=Value.float y t from d);cases q;exact YA PySem.W.kitx_float I.gD True.intro e (λz=>nomatch z) h
 |@lst a j f=>
  cases(show u=Value.ref a from d);obtain⟨_,_,n,_,h1⟩:=(show bV X.prog X.w H s.heap a (.lst j)from I.aW a _ f);exact YA PySem.W.kitx_list I.gD ⟨_,h1,rfl⟩ e (λz=>nomatch z) h
 |@ic a ob j f=>
  cases(show u=Value.ref a from d);obtain⟨_,_,_,n,_,h1⟩:=(show bV X.prog X.w H s.heap a (.ic ob (.lst j))from I.aW a _ f);exact YA PySem.W.kitx_list I.gD ⟨_,h1,rfl⟩ e (λz=>nomatch z) h
 |@tup a j f=>
  cases(show u=Value.ref a from d);obtain⟨_,_,_,p⟩:=(show bV X.prog X.w H s.heap a (.tup j)from I.aW a _ f);obtain⟨o,h1,h2,_⟩:=p;exact YA PySem.W.kitx_tuple I.gD ⟨o,h1,h2⟩ e (λz=>nomatch z) h
 |@dK a g f=>
  cases(show u=Value.ref a from d);obtain⟨_,_,G,_,p⟩:=(show bV X.prog X.w H s.heap a (.dK g)from I.aW a _ f);obtain⟨o,v,w,h1,h2,_⟩:=p;exact YA PySem.W.kitx_dict I.gD ⟨o,h1,h2.1⟩ e (λz=>nomatch z) h
 |@dT a g f=>
  cases(show u=Value.ref a from d);obtain⟨_,_,j,_,o,v,w,h1,h2,_⟩:=(show bV X.prog X.w H s.heap a (.dT g)from I.aW a _ f);exact YA PySem.W.kitx_dict I.gD ⟨o,h1,h2.1⟩ e (λz=>nomatch z) h
 |@ins a C K fs f k D r m l=>
  cases(show u=Value.ref a from d);obtain⟨L,O,_⟩:=IU I.aW f;obtain⟨F,J,_⟩:=O.look;exact YA (PySem.W.kitx_own (k.get _) k.hd D r m l) I.gD J e (λz=>nomatch z) h
end
structure aS(k:Nat)(A:au):Prop where
 hd:A.handled=none
 dp:A.depth+3*k+5<recursionLimit
 un:A.units+16*k+200<cLine
 gd:A.guards=some []
theorem aS.mono{j k:Nat}{A:au}(r:aS k A)(h:j<=k):aS j A:=⟨r.hd,by have:=r.dp;lia,by have:=r.un;lia,r.gd⟩
theorem aS.deeper{k:Nat}{A:au}(r:aS (k+1) A)(env:Env):aS k (A.deeper env):=
 ⟨r.hd,by have:=r.dp;show A.depth+1+3*k+5<_;lia,by have:=r.un;show A.units+3+16*k+200<_;lia,r.gd⟩
theorem qZ7{A:au}{C:ae}{us:List aa}{a:List (aq×aa)}:(A.under (.builtin "type.__call__" ⟨.ref C::us,a⟩)).depth=A.depth+1:=by
 first|rfl|simp[Around.under,Code.weight,Code.isCreation,Code.isGuard,Code.isCaller,Code.frames,Code.isFrame,guardIds]
theorem qZ8{A:au}{C:ae}{us:List aa}{a:List (aq×aa)}:(A.under (.builtin "type.__call__" ⟨.ref C::us,a⟩)).units=A.units+1:=by
 first|rfl|simp[Around.under,Code.cUnits,Code.frames,Code.isFrame]
theorem qR1{A:au}{C:ae}{us:List aa}{a:List (aq×aa)}:(A.under (.builtin "type.__call__" ⟨.ref C::us,a⟩)).guards=A.guards:=by
 first|rfl|(unfold Around.under;simp[Code.guards,Code.isGuard,guardIds,pushGuards])|(cases h:A.guards<;>simp[Around.under,Code.guards,Code.isGuard,guardIds,pushGuards,h])
theorem aS.make{k:Nat}{A:au}(r:aS (k+1) A)(C:ae)(us:List aa)(a:List (aq×aa)):aS k (A.under (.builtin "type.__call__" ⟨.ref C::us,a⟩)):=
 ⟨r.hd,by have:=r.dp;rw[qZ7];lia,by have:=r.un;rw[qZ8];lia,by rw[qR1];exact r.gd⟩
theorem aS.depth{k:Nat}{A:au}(r:aS k A):A.depth<recursionLimit:=by have:=r.dp;lia
theorem aS.units{k:Nat}{A:au}(r:aS k A):A.units+64<cLine:=by have:=r.un;lia
def hJ:TA:=λ_ H Q=>Q [] H
def iN(b:TE)(tr:TA):TA:=λa H Q=>b a H λx c=>tr a c λe d=>Q (x::e) d
section
variable{X:Cx}{e:ar}{es:List ar}{te:TE}{t:TA}{pos:aA}
theorem aH:PA X [] hJ:=λ_ _ _ _ H Q I h=>Calls.spliced_nil ⟨[],H,I,.nil,h⟩
theorem aD(d:PE X e te)(f:PA X es t)(hs:starEach (e::es) X.env=(false,eval e X.env)::starEach es X.env:=by rfl):PA X (e::es) (iN te t):=by
 intro pos b s a H Q I h;rw[hs];show ag _ _ (spliced ((false,eval e X.env)::backTo pos (starEach es X.env))) _ _ s;refine Calls.spliced_cons (bC (d b s a H _ I h) λu i ⟨x,g,k,p,j⟩=>?_);exact bC (f pos b i a g _ k j) λv w ⟨l,q,c,m,r⟩=>⟨x::l,q,c,.cons p m,r⟩
def gH(t:TA):TE:=λc H Q=>t c H λb a=>b.length<=sizeLine/\∀p,a p=none->Q (.ref p) (upd a p (.tup b))
def p_(t:TA):TE:=λc H Q=>t c H λb a=>b.length<=sizeLine/\∀p,a p=none->Q (.ref p) (upd a p (.lst b))
theorem kq {x1} (h:PA X es t):PE X (.Tuple es x1 pos) (gH t):=by
 intro l s i H Q I f;refine wpAny_Tuple_spliced (bC (h pos l s i H _ I f) λg a ⟨j,c,d,r,z,q⟩=>⟨by rw[<- r.length];exact z,?_⟩);have k:c a.heap.objs.size=none:=d.aW.fresh (Zg _);refine⟨.ref a.heap.objs.size,upd c a.heap.objs.size (.tup j),d.laid (t':=a.toks) (λb u e=>Zb _ e) (Zg _) ?_,rfl,q _ k⟩;exact⟨z,g,r,⟨_,Zh _ rfl,rfl,⟨_,rfl⟩,rfl⟩⟩
theorem iI(h:PA X es t):PE X (.List es pos) (p_ t):=by
 intro l s i H Q I f;refine wpAny_List_spliced (bC (h pos l s i H _ I f) λg a ⟨j,c,d,r,z,q⟩=>⟨by rw[<- r.length];exact z,?_⟩);have k:c a.heap.objs.size=none:=d.aW.fresh (Zg _);refine⟨.ref a.heap.objs.size,upd c a.heap.objs.size (.lst j),d.laid (t':=a.toks) (λb u e=>Zb _ e) (Zg _) ?_,rfl,q _ k⟩;exact⟨z,g,0,r,Zh _ rfl⟩
end
abbrev Sp:=List V->Hp->VK->XK->Prop
abbrev lW:=List Env->Hp->af->XK->aa->af->Prop
structure lV(P:ah)(w:ak)(K:PySem.W.Frag)(mg:aq->Option aa)(base:ao)(A:au)(outer:List Env)(s:af)(H:Hp):Prop where
 frames:A.frames=some outer
 mod:Mod K mg base
 bs:∀b o,base.get? b=some o->s.heap.get? b=some o/\H b=none
 oU:base.objs.size<=s.heap.objs.size
 dS:s.heap.FunFrames base outer
 pY:∀b∈dO outer,H b=none
 aW:eV P w H s.heap
 bare:AllBare s.gens
def CE(outer:List Env)(P:ah)(w:ak)(H:Hp)(s:af)(Q:VK)(u:aa)(s':af):Prop:=
 ∃v a,s'.os=s.os/\AllBare s'.gens/\Un (dO outer) [] H a s.heap s'.heap/\eV P w a s'.heap/\RelV v u/\Q v a
def CR(CX:lW)(outer:List Env)(P:ah)(w:ak)(H:Hp)(s:af)(Q:VK)(E:XK)(r:Result)(s':af):Prop:=
 match r with
 |.ok (.ret u)=>CE outer P w H s Q u s'
 |.ok _=>False
 |.error e=>CX outer H s E e s'
structure aB(P:ah)(w:ak)(K:PySem.W.Frag)(mg:aq->Option aa)(base:ao)(CX:lW)(k:Nat)(f:ae)(fd:ai)(ps:List aq)(sp:Sp):Prop where
 len:∀vs H Q E,sp vs H Q E->vs.length=ps.length
 run:∀(A:au)(outer:List Env)(s:af)(H:Hp)(args:Args)(us:List aa)(vs:List V)(Q:VK)(E:XK),aS k A->lV P w K mg base A outer s H->BindsTo s fd args (ps.zip us)->Vals vs us->sp vs H Q E ->
  codeAny (aj P w) A (.call (.ref f) args) (CR CX outer P w H s Q E) s
theorem aB.mono{P:ah}{w:ak}{K:PySem.W.Frag}{mg:aq->Option aa}{base:ao}{CX:lW}{j k:Nat}{f:ae}{c:ai}{ps:List aq}{sp:Sp}(F:aB P w K mg base CX j f c ps sp)(h:j<=k):
  aB P w K mg base CX k f c ps sp:=⟨F.len,λA a s H b d g Q E e=>F.run A a s H b d g Q E (e.mono h)⟩
theorem aB.imp{P:ah}{w:ak}{K:PySem.W.Frag}{mg:aq->Option aa}{base:ao}{CX:lW}{k:Nat}{f:ae}{d:ai}{ps:List aq}{sp e:Sp}(F:aB P w K mg base CX k f d ps sp)
  (h:∀b H Q E,e b H Q E->sp b H Q E):aB P w K mg base CX k f d ps e:=
 ⟨λb H Q E q=>F.len b H Q E (h _ _ _ _ q),λA a s H c i b Q E j g hb l m=>F.run A a s H c i b Q E j g hb l (h _ _ _ _ m)⟩
theorem lV.make{P:ah}{w:ak}{K:PySem.W.Frag}{mg:aq->Option aa}{base:ao}{A:au}{outer:List Env}{s:af}{H:Hp}(e:lV P w K mg base A outer s H)(C:ae)(us:List aa)(a:List (aq×aa)):
  lV P w K mg base (A.under (.builtin "type.__call__" ⟨.ref C::us,a⟩)) outer s H:=⟨by first|exact e.frames|(simpa[Around.under,Code.envs,Code.isFrame,pushEnvs]using e.frames),e.mod,e.bs,e.oU,e.dS,e.pY,e.aW,e.bare⟩
section
variable{X:Cx}{j4:List (ae×aw)}{σ:St}{H:Hp}{s s':af}
theorem Inv.zV(I:Inv X j4 σ H s):lV X.prog X.w X.K X.mg X.base X.A X.stack s H:=
 ⟨I.ok.frames,I.ok.mod,I.bs,ZN I.ok.oU I.sz,I.stack,I.lz,I.aW,I.bare⟩
theorem Inv.after{Q:VK}{u:aa}(I:Inv X j4 σ H s)(h:CE X.stack X.prog X.w H s Q u s'):EP X j4 σ Q u s':=by
 obtain⟨v,i,f,a,un,e,r,q⟩:=h;obtain⟨c,g,d,t,j⟩:=s';obtain rfl:j=s.os:=f;exact⟨v,i,I.call (h':=c) (g':=g) (d':=d) (t':=t) (ch:=[]) un e a (λb z=>absurd z 'b'),r,q⟩
end
def Th(sp:Sp)(b:List V)(E:XK)(t:TA):TE:=λc H Q=>t c H λd a=>sp (d++b) a Q E
inductive xB(C:ae)(m:aq)(sp:Sp)(iV:List V)(E:XK)(t:TA)(σ:St)(Q:VK)(x:V)(H1:Hp):Prop
 |mk(a:_)(dx:_)(fs:_)(e0:x=.ref a)(e1:H1 a=some (.ins C dx fs))(e2:fs.lookup m=none)(e3:t σ H1 λvs H2=>sp (x::(vs++iV)) H2 Q E)
def xN1(C:ae)(m:aq)(sp:Sp)(d:List V)(E:XK)(b:TE)(t:TA):TE:=λa H Q=>b a H λx c=>xB C m sp d E t a Q x c
def Tg(C:ae)(sp:Sp)(c:List V)(E:XK)(t:TA):TE:=λd H Q=>t d H λe b=>∀x a,b x=none->b a=none->a≠x ->
 sp (.ref x::(e++c)) (upd (upd b a (.own x)) x (.ins C a [])) (λv f=>v=.cA/\Q (.ref x) f) E
def Binds(K:PySem.W.Frag)(c:ai)(ps:List aq)(b:List aa):Prop:=
 ∀(s:af)(a:List aa),K.In s.heap->(a++b).length=ps.length->BindsTo s c ⟨a,[]⟩ (ps.zip (a++b))
theorem Binds.all{K:PySem.W.Frag}{b:ai}{ps:List aq}(h:∀a:List aa,a.length=ps.length->bindArgs b ⟨a,[]⟩=pure (ps.zip a)):Binds K b ps []:=λs a _ c=>by
 rw[XC]at c ⊢;exact .of_eq (h a c)
def tH(CX:lW)(X:Cx)(E:XK):Prop:=∀(c:List (ae×aw))(b:St)(H:Hp)(s:af)(e:aa)(a:af),Inv X c b H s->CX X.stack H s E e a->X.xe e a
section
variable{X:Cx}{CX:lW}{k:Nat}{f C:ae}{fd:ai}{ps:List aq}{sp:Sp}{iV:List V}{ds:List aa}{E:XK}{x m:aq}{p pos apos:aA}{e o:ar}{es:List ar}{ta:TE}{t:TA}
theorem R7{b:List (ae×aw)}{σ:St}{H:Hp}{s:af}{Q:VK}{us:List aa}{vs:List V}(F:aB X.prog X.w X.K X.mg X.base CX k f fd ps sp)(l:aS k X.A)(hb:Binds X.K fd ps ds)(g:Vals iV ds)(j:tH CX X E)
  (I:Inv X b σ H s) (r:Vals vs us) (h:sp (vs++iV) H Q E):ag (aj X.prog X.w) X.A (call (.ref f) us) (EP X b σ Q) X.xe s:=by
 have c:Vals (vs++iV) (us++ds):=r.append g;have i:(us++ds).length=ps.length:=by rw[<- c.length];exact F.len _ _ _ _ h
 refine Vo (Y7 (F.run X.A X.stack s H ⟨us,[]⟩ (us++ds) (vs++iV) Q E l I.zV (hb s us I.gD i) c h) λr d a=>?_);cases r with
 |error e=>exact j b σ H s e d I a
 |ok q=>
  cases q with
  |ret u=>exact I.after a
  |next=>exact False.elim a
  |brk=>exact False.elim a
  |cont=>exact False.elim a
theorem jw(F:aB X.prog X.w X.K X.mg X.base CX k f fd ps sp)(j:aS k X.A)(i:Gl X x)(b:X.mg x=some (.ref f))(d:PySem.W.keepIn X.K (.ref f)=true)(hb:Binds X.K fd ps ds)(c:Vals iV ds)(w:tH CX X E)
  (y:PA X (e::es) t) (A:(x==("__debug__":aq))=false:=by decide) (v:starEach (e::es) X.env=(false,eval e X.env)::starEach es X.env:=by rfl) (l:(backTo pos (starEach es X.env)).any (·.1)=false:=by rfl):
  PE X (.Call (.Name x p) (e::es) [] pos) (Th sp iV E t):=by
 intro u s g H Q I h;refine Xa (ye I i b ?_ A);refine Wo (h₀:=X.base) I.ok.mod.wx d (bC (y pos u s g H _ I h) λJ D ⟨G,B,a,r,q⟩=>⟨a.gD,?_⟩) v l;exact R7 F j hb c w a r q
theorem AI{pl:Sem Bool}(G:PE X o ta)(c:pL X.K C)(b:Meth X.K C m f)(F:aB X.prog X.w X.K X.mg X.base CX k f fd ps sp)(y:aS k X.A)(hb:Binds X.K fd ps ds)(v:Vals iV ds)(K:tH CX X E)(O:PA X (e::es) t)
  (A:starEach (e::es) X.env=(false,eval e X.env)::starEach es X.env:=by rfl) (B:(backTo pos (starEach es X.env)).any (·.1)=false:=by rfl)
  (N:eval (.Call (.Attribute o m apos) (e::es) [] pos) X.env=(do
   let ov <- eval o X.env
   standAt apos.atName
   let (f,first) <- holding [ov] (getMethod ov m pl)
   callWith pos f first (backTo pos (starEach (e::es) X.env)) (backToKw pos (keywordEach [] X.env))):=by rfl):
  PE X (.Call (.Attribute o m apos) (e::es) [] pos) (xN1 C m sp iV E ta t):=by
 intro i s d H Q I h;refine PySem.W.methodCall_KW (pl:=pl) (bC (G i s d H _ I h) λu L ⟨x,J,j,D,a,P,fs,ex,M,l,q⟩=>?_) N;subst ex;obtain rfl:u=Value.ref a:=D;refine qZ5 j M c b l ?_;refine Wo (first:=[.ref a]) (h₀:=X.base) I.ok.mod.wx b.kp (bC (O pos i L d J _ j q) λus S ⟨vs,R,g,r,w⟩=>⟨g.gD,?_⟩) A B;exact R7 (us:=.ref a::us) (vs:=.ref a::vs) F y hb v K g (.cons rfl r) w
structure Mk(K:PySem.W.Frag)(C f:ae):Prop where
 makes:PySem.W.makesIn K C=true
 init:PySem.W.findIn K (.ref C) "__init__"=some (some (.ref f))
 fn:PySem.W.isFn K (.ref f)=true
 kp:PySem.W.keepIn K (.ref C)=true
theorem Up{d:List (ae×aw)}{σ:St}{H:Hp}{s:af}{Q:VK}{us:List aa}{vs:List V}(M:Mk X.K C f)(F:aB X.prog X.w X.K X.mg X.base CX k f fd ps sp)(y:aS (k+1) X.A)(hb:Binds X.K fd ps ds)(j:Vals iV ds)
  (A:tH CX X E) (I:Inv X d σ H s) (r:Vals vs us)
  (h:∀x c,H x=none->H c=none->c≠x->sp (.ref x::(vs++iV)) (upd (upd H c (.own x)) x (.ins C c [])) (λv G=>v=.cA/\Q (.ref x) G) E):
  ag (aj X.prog X.w) X.A (call (.ref C) us) (EP X d σ Q) X.xe s:=by
 have g:=h (s.heap.objs.size+1) s.heap.objs.size (I.aW.fresh (Nat.le_succ _)) (I.aW.fresh (Zg _)) (Zz (Yw _));have b:=Inv.made (C:=C) I;have i:Vals (V.ref (s.heap.objs.size+1)::(vs++iV)) (Value.ref (s.heap.objs.size+1)::(us++ds)):=.cons rfl (r.append j);have J:(Value.ref (s.heap.objs.size+1)::us++ds).length=ps.length:=by
  have e:=i.length;rw[F.len _ _ _ _ g]at e;exact e.symm
 refine Vo (xj8 (f:=f) I.gD M.makes M.init (XY.mp M.fn) (Y7 (F.run _ X.stack _ _ ⟨Value.ref (s.heap.objs.size+1)::us,[]⟩ (Value.ref (s.heap.objs.size+1)::(us++ds)) _ _ E (y.make C us [])
  (b.zV.make C us []) (hb _ (Value.ref (s.heap.objs.size+1)::us) b.gD J) i g) λr w a=>?_))
 cases r with
 |error e=>exact A d σ _ _ e w b a
 |ok K=>
  cases K with
  |ret u=>
   obtain⟨v,q,D,l,ev,B⟩:=b.after a;subst ev;exact⟨l,⟨V.ref (s.heap.objs.size+1),q,D,rfl,B⟩⟩
  |next=>exact False.elim a
  |brk=>exact False.elim a
  |cont=>exact False.elim a
theorem xw5(M:Mk X.K C f)(F:aB X.prog X.w X.K X.mg X.base CX k f fd ps sp)(i:aS (k+1) X.A)(g:Gl X x)(b:X.mg x=some (.ref C))(hb:Binds X.K fd ps ds)(c:Vals iV ds)(v:tH CX X E)
  (w:PA X (e::es) t) (y:(x==("__debug__":aq))=false:=by decide) (u:starEach (e::es) X.env=(false,eval e X.env)::starEach es X.env:=by rfl) (j:(backTo pos (starEach es X.env)).any (·.1)=false:=by rfl):
  PE X (.Call (.Name x p) (e::es) [] pos) (Tg C sp iV E t):=by
 intro l s d H Q I h;refine Xa (ye I g b ?_ y);refine Wo (h₀:=X.base) I.ok.mod.wx M.kp (bC (w pos l s d H _ I h) λG B ⟨D,A,a,r,q⟩=>⟨a.gD,?_⟩) u j;exact Up M F i hb c v a r q
theorem xj9(M:Mk X.K C f)(F:aB X.prog X.w X.K X.mg X.base CX k f fd ps sp)(d:aS (k+1) X.A)(i:Gl X x)(a:X.mg x=some (.ref C))(hb:Binds X.K fd ps ds)(b:Vals iV ds)(c:tH CX X E)
  (g:(x==("__debug__":aq))=false:=by decide):PE X (.Call (.Name x p) [] [] pos) (Tg C sp iV E hJ):=by
 intro l s j H Q I h;refine Xa (ye I i a ?_ g);exact PySem.W.callWith_K0 I.gD M.kp (Up (us:=[]) M F d hb b c I .nil h)
end
structure aE(N P:List aq)(sc:ax):Prop where
 kind:sc.kind=.function
 co:sc.isCoroutine=false
 gen:sc.isGenerator=false
 nd:N.Nodup
 pre:N.take P.length=P
 par:∀x∈P,sc.names.lookup x=some .local\/sc.names.lookup x=some .cell
 qK:∀y∈sc.names,y.2≠.free
theorem U8{a:aq->Option NameKind}{x:aq}:∀{binds:List (aq×aa)}{m:aq->Option aa},(∀v,(x,v)∉binds)->bindL a binds m x=m x
 |[],_,_=>rfl
 |(n,v)::r,m,h=>by
  unfold bindL;rw[U8 λw b=>h w (Zn _ b)];split
  ·have:x≠n:=by rintro rfl;exact h v Zw
   simp[this]
  ·rfl
theorem U7{a:aq->Option NameKind}{x:aq}:∀{binds:List (aq×aa)}{m:aq->Option aa},(∀v,(x,v)∉binds)->bindC a binds m x=m x
 |[],_,_=>rfl
 |(n,v)::r,m,h=>by
  unfold bindC;rw[U7 λw b=>h w (Zn _ b)];split
  ·rfl
  ·have:x≠n:=by rintro rfl;exact h v Zw
   simp[this]
theorem M0{a:aq->Option NameKind}{x:aq}{v:aa}:∀{P:List aq}{b:List aa}{i:Nat}{m:aq->Option aa},P.Nodup->P[i]?=some x->b[i]?=some v->a x=some .local ->
  bindL a (P.zip b) m x=some v
 |[],_,_,_,_,h,_,_=>by simp at h
 |_::_,[],_,_,_,_,h,_=>by simp at h
 |p::P,w::b,0,m,nd,h1,h2,c=>by
  simp at h1 h2;subst h1;subst h2;show bindL a ((p,w)::P.zip b) m p=_;unfold bindL;rw[U8 λv d=>(YJ.mp nd).1 (WT d).1,Zr c];simp
 |p::P,w::b,i+1,m,nd,h1,h2,c=>by
  show bindL a ((p,w)::P.zip b) m x=_;unfold bindL;exact M0 (i:=i) (YJ.mp nd).2 (by simpa using h1) (by simpa using h2) c
theorem MZ{a:aq->Option NameKind}{x:aq}{v:aa}:∀{P:List aq}{b:List aa}{i:Nat}{m:aq->Option aa},P.Nodup->P[i]?=some x->b[i]?=some v->a x≠some .local ->
  bindC a (P.zip b) m x=some v
 |[],_,_,_,_,h,_,_=>by simp at h
 |_::_,[],_,_,_,_,h,_=>by simp at h
 |p::P,w::b,0,m,nd,h1,h2,c=>by
  simp at h1 h2;subst h1;subst h2;show bindC a ((p,w)::P.zip b) m p=_;unfold bindC;rw[U7 λv d=>(YJ.mp nd).1 (WT d).1,Zi c];simp
 |p::P,w::b,i+1,m,nd,h1,h2,c=>by
  show bindC a ((p,w)::P.zip b) m x=_;unfold bindC;exact MZ (i:=i) (YJ.mp nd).2 (by simpa using h1) (by simpa using h2) c
def mX(N:List aq)(vs:List V):St:=vs.map some++List.replicate (N.length-vs.length) none
def ke(CX:lW)(P:ah)(w:ak)(K:PySem.W.Frag)(mg:aq->Option aa)(base:ao)(N:List aq)(a:aq)(scope:ax)(f:ae)(b:aa)(A:au)(outer:List Env)(s:af)(H:Hp)(E:XK):Cx where
 prog:=P
 w:=w
 K:=K
 mg:=mg
 base:=base
 A:=A.deeper (envOfC a scope s.heap.objs.size f b)
 N:=N
 aG:=s
 aK:=H
 env:=envOfC a scope s.heap.objs.size f b
 outer:=outer
 stack:=envOfC a scope s.heap.objs.size f b::outer
 ex:=[]
 calm:=true
 fn:=λ_=>true
 pn:=[]
 xe:=λe d=>ag (aj P w) (A.deeper (envOfC a scope s.heap.objs.size f b)) (leaving (envOfC a scope s.heap.objs.size f b) e) (λ_ c=>CX outer H s E e c) (λg c=>CX outer H s E g c) d
theorem HG{a:ax}{n:Nat}{x:aq}(h:a.names.lookup x=some .cell):∃c,(cellsFrom n a.names []).lookup x=some c:=by
 have q:=Ww a.names n [] (.inl h);exact Xo.mp q
theorem q58{CX:lW}{P:ah}{w:ak}{K:PySem.W.Frag}{mg:aq->Option aa}{base:ao}{N ps:List aq}{d:aq}{scope:ax}{f:ae}{B:aa}{A:au}{outer:List Env}{s I:af}{H:Hp}{E:XK}{us:List aa}{vs:List V}
  (S:aE N ps scope) (J:A.handled=none) (g:lV P w K mg base A outer s H) (T:vs.length=ps.length) (r:Vals vs us)
  (x:InCallC s s.heap.objs.size (bindL (envOfC d scope s.heap.objs.size f B).kindOf (ps.zip us) λ_=>none) (cellsFrom (s.heap.objs.size+1) scope.names []) (bindC (envOfC d scope s.heap.objs.size f B).kindOf (ps.zip us) λ_=>none) I):
  Inv (ke CX P w K mg base N d scope f B A outer s H E) [] (mX N vs) H I:=by
 have O:ps.length<=N.length:=by have:=Yo List.length S.pre;rw[ZT]at this;lia
 obtain⟨h1,R,rfl,D⟩:=x.done;have C:∀b:ae,b∉(ke CX P w K mg base N d scope f B A outer s H E).ex:=λb z=>absurd (show b∈([]:List ae)from z) 'b';refine⟨⟨g.mod,S.kind,rfl,rfl,Zg _,λy z c h1 h2=>?_,λy j=>?_,λy c _ h=>?_,λ_=>J,Around.frames_deeper g.frames,.inr ⟨rfl,rfl⟩,λb z=>absurd z (C b),g.bs,g.oU,λb _ _=>C b,λb z=>absurd z (C b),g.dS,g.pY⟩,
  rfl,g.bare,Un.kept D,⟨_,x.toInCall.ns,λi y v h1 h2 Q=>?_⟩,λy c h=>⟨_,x.cell y c h⟩,g.aW.fresh (Zg _),λy c h=>?_,λp l=>absurd (show p∈([]:List (ae×aw))from l) 'b',g.aW.kept D,?_⟩
 ·exact name_of_addr x.apart (Yp h1) (Yp h2)
 ·have j:scope.names.lookup y=some .cell\/scope.names.lookup y=some .free:=j;rcases j with j|j
  ·exact HG j
  ·exact absurd rfl (S.qK _ (Yp j))
 ·exact Ys (x.above y c (Yp h))
 ·have m:i<vs.length:=by
   unfold mX at h2;by_cases m:i<vs.length
   ·exact m
   ·rw[Zs (by simpa using m)]at h2;rw[Xu]at h2;split at h2<;>cases h2
  have M:vs[i]?=some v:=by
   unfold mX at h2;rw[Zm (by simpa using m),Zf]at h2;cases e:vs[i]? with
   |none=>rw[e]at h2;cases h2
   |some a=>rw[e]at h2;cases h2;rfl
  obtain⟨u,F,L⟩:=r.get M;have l:ps[i]?=some y:=by
   rw[<- S.pre,List.getElem?_take_of_lt 'a'];exact h1
  have G:ps.Nodup:=by rw[<- S.pre];exact S.nd.sublist (List.take_sublist _ _)
  refine⟨u,L,?_⟩;rcases S.par y (Zo l)with k|k
  ·exact .inl ⟨k,M0 G l F k⟩
  ·obtain⟨c,e⟩:=HG (n:=s.heap.objs.size+1) k;refine .inr ⟨.inl k,c,e,?_⟩;have q:=x.cell y c e;rw[MZ G l F (by show scope.names.lookup y≠_;rw[k];decide)]at q;exact q
 ·exact g.aW.fresh (Ys (x.above y c (Yp h)))
 ·unfold mX;show _=N.length;rw[Zk,Ze,XM];lia
theorem Tf{CX:lW}{P:ah}{w:ak}{K:PySem.W.Frag}{mg:aq->Option aa}{base:ao}{k:Nat}{f:ae}{name c:aq}{d:Arguments}{g:List ay}{scope:ax}{M kV B W l ct Y:aa}{T od:Option ae}
  {Z:Array (Option aa)}{N ps:List aq}{sp:Sp}(lk:K.lookup f=some ⟨Y,od,.func (PySem.W.fnOf name c d g scope M kV B W T l ct),Z⟩) (kZ:PySem.W.codeIn K l c=true) (S:aE N ps scope)
  (len:∀h H Q E,sp h H Q E->h.length=ps.length)
  (kC:∀(A:au)(a:List Env)(s:af)(H:Hp)(h:List V)(Q:VK)(E:XK),aS k (A.deeper (envOfC c scope s.heap.objs.size f l))->sp h H Q E ->
   ∃t,jj (ke CX P w K mg base N c scope f l A a s H E) g t/\t {nx:=λ_ j=>Q .cA j,rt:=Q} (mX N h) H):
  aB P w K mg base CX (k+1) f (PySem.W.fnOf name c d g scope M kV B W T l ct) ps sp:=by
 refine⟨len,λA a s H O us h Q E L p hb r R=>?_⟩;have hl:=len _ _ _ _ R;have X:K.In s.heap:=p.mod.wx.keeps λb o e=>(p.bs b o e).1;have G:s.heap.NoLimit:=p.mod.nolimit.keeps λb o e=>(p.bs b o e).1;have jE:∀y∈ps.zip us,scope.names.lookup y.1=some .local\/(scope.names.lookup y.1=some .cell/\((cellsFrom (s.heap.objs.size+1) scope.names []).lookup y.1).isSome=true):=λ⟨n,v⟩ hy=>by
  rcases S.par n (WT hy).1 with q|q
  ·exact .inl q
  ·exact .inr ⟨q,Ww _ _ _ (.inl q)⟩
 refine codeAny_call_function L.depth (X _ _ lk) rfl S.co S.gen rfl (PySem.W.codeRec_of X kZ) (hb _ _ _ _ ?_);refine wpAny_newFunctionEnv_cells S.kind jE λenv he U x=>?_;subst he;refine⟨G.keeps x.toInCall.keep,codeAny_func ?_⟩;obtain⟨t,ht,hq⟩:=kC A a s H h Q E (L.deeper _) R;have I:Inv (ke CX P w K mg base N c scope f l A a s H E) [] (mX N h) H U:=q58 S L.hd p hl r x;refine Yz (ht [] U (mX N h) H _ I hq) (λfl F m=>?_) λe F m=>m;have C:∀{i:St}{j:Hp}{v:V}{u:aa},Inv (ke CX P w K mg base N c scope f l A a s H E) [] i j F->RelV v u->Q v j->CE a P w H s Q u F:=
  λ{i j v u} J D q=>⟨v,j,J.os,J.bare,J.base,J.aW,D,q⟩
 cases fl with
 |ret u=>
  obtain⟨v,i,j,J,D,q⟩:=m;exact C J D q
 |next=>
  obtain⟨i,j,J,q⟩:=m;exact C (v:=V.cA) (u:=Value.none) J rfl q
 |brk=>
  obtain⟨_,_,_,q⟩:=m;exact False.elim q
 |cont=>
  obtain⟨_,_,_,q⟩:=m;exact False.elim q
section
variable{X:Cx}{x:aq}{p pos:aA}{e:ar}{es:List ar}{t:TA}{id T:String}{r:List V->Hp->VK->Prop}
def Av(r:List V->Hp->VK->Prop)(t:TA):TE:=λb H Q=>t b H λc a=>r c a Q
theorem cQ(hc:iO X (.builtin id) r)(d:Gl X x)(c:X.mg x=none)(w:bootBuiltins x=some (.builtin id))(y:PA X (e::es) t)(g:x ≠ "__name__":=by decide)(A:(x==("__debug__":aq))=false:=by decide)
  (i:starEach (e::es) X.env=(false,eval e X.env)::starEach es X.env:=by rfl) (f:(backTo pos (starEach es X.env)).any (·.1)=false:=by rfl):PE X (.Call (.Name x p) (e::es) [] pos) (Av r t):=by
 intro b s a H Q I h;refine Xa (A4 I d c w ?_ g A);exact PyProof.Rows.callWith_builtin1 (bC (y pos b s a H _ I h) λu k ⟨m,j,q,v,l⟩=>hc b k a j m u Q q v l) i f
theorem hZ(hc:iO X (.type T) r)(d:Gl X x)(c:X.mg x=none)(w:bootBuiltins x=some (.type T))(y:PA X (e::es) t)(g:x ≠ "__name__":=by decide)(A:(x==("__debug__":aq))=false:=by decide)
  (i:starEach (e::es) X.env=(false,eval e X.env)::starEach es X.env:=by rfl) (f:(backTo pos (starEach es X.env)).any (·.1)=false:=by rfl):PE X (.Call (.Name x p) (e::es) [] pos) (Av r t):=by
 intro b s a H Q I h;refine Xa (A4 I d c w ?_ g A);exact Y6 (bC (y pos b s a H _ I h) λu k ⟨m,j,q,v,l⟩=>hc b k a j m u Q q v l) i f
end
end L2
namespace HT
open PySem PyProof.Rows
theorem uz{t b:ae}{vs ws:List aa}{Q:aa->af->Prop}(u:IsTup s.heap t vs.toArray)(hb:IsTup s.heap b ws.toArray)(m:vs≠[])
  (h1:ws=[]->Q (.ref t) s) (h2:ws≠[]->Q (.ref s.heap.objs.size) {s with heap:=s.heap.push {cls:=.type "tuple",data:=.seq (vs++ws).toArray}})
  (hsz:vs.length+ws.length<=sizeLine):ag (aj prog w) A (binaryOp .Add (.ref t) (.ref b)) Q E s:=by
 obtain⟨⟨cls,r,data,p⟩,a,l,n,g⟩:=id u;obtain⟨⟨v,h,f,i⟩,d,q,k,j⟩:=id hb;simp only at l g q j;subst l g q j;have e:vs.toArray++ws.toArray=(vs++ws).toArray:=by simp
 by_cases c:ws=[]
 ·exact concat_meets ⟨_,a,rfl⟩ ⟨_,d,rfl⟩ noFill_tuple_add seq_tuple_add Wx Wt (Wf _ _)
   (tuple_addW1 t b vs.toArray ws.toArray n k r h p i (by simpa using m) (by simp[c])) ⟨a,d,h1 c⟩
 ·refine concat_meets ⟨_,a,rfl⟩ ⟨_,d,rfl⟩ noFill_tuple_add seq_tuple_add Wx Wt (Wf _ _)
   (tuple_addW2 t b vs.toArray ws.toArray n k r h p i (by simpa using m) (by simpa using c) (by rw[Zx,Zx];exact hsz)) ⟨a,d,?_⟩
  rw[e];exact h2 c
def cI(n d:Nat):Option Int->Nat
 |none=>d
 |some v=>if v<0 then(v+(n:Int)).toNat else min v.toNat n
theorem md(n d:Nat):cI n d none=d:=rfl
theorem oj(n d k:Nat):cI n d (some (k:Int))=min k n:=by
 show(if(k:Int)<0 then((k:Int)+(n:Int)).toNat else min (k:Int).toNat n)=min k n;rw[Zi 'a',YU]
theorem xG5(n d:Nat)(b:d<=n)(o:Option Int):cI n d o<=n:=by
 cases o with
 |none=>exact b
 |some v=>
  show(if v<0 then(v+(n:Int)).toNat else min v.toNat n)<=n;by_cases a:v<0
  ·rw[Zr a];lia
  ·rw[Zi a];exact Nat.min_le_right _ _
theorem V2(v:Int)(n d:Nat):(if v<0 then max (v+(n:Int)) 0 else min v (n:Int))=((cI n d (some v):Nat):Int):=by
 show(if v<0 then max (v+(n:Int)) 0 else min v (n:Int))=(((if v<0 then(v+(n:Int)).toNat else min v.toNat n):Nat):Int);by_cases a:v<0
 ·simp only[Zr a];lia
 ·simp only[Zi a];lia
theorem qZ9(lo a:Option Int)(n:Nat):Builtin.Slice.sliceAdjust lo a 1 (n:Int)=(((cI n 0 lo:Nat):Int),((cI n n a:Nat):Int)):=by
 have h1:¬((1:Int)<0):=by lia
 unfold Builtin.Slice.sliceAdjust;simp only[h1,Z0];refine Prod.ext ?_ ?_
 ·cases lo with
  |none=>rfl
  |some v=>exact V2 v n 0
 ·cases a with
  |none=>rfl
  |some v=>exact V2 v n n
theorem q00(i j:Nat):Builtin.Slice.slicePlaces (i:Int) (j:Int) 1=j-i:=by
 unfold Builtin.Slice.slicePlaces;have h1:(1:Int)>0:=by lia
 simp only[h1,Yt,Int.ediv_one];split<;>lia
theorem vk{v:aa}{o:Option Int}{Q:Option Int->af->Prop}(p:IsPart v o)(h:Q o s):ag (aj prog w) A (Builtin.Slice.slicePartIndex v) Q E s:=by
 cases p with
 |none=>exact slicePart_none h
 |int i t=>exact slicePart_int h
theorem dP{f:ae}{b d:aa}{lo a:Option Int}{n:Nat}{Q:Int×Int×Nat->af->Prop}(hs:s.heap.IsSliceOf f b d .none)(pl:IsPart b lo)(g:IsPart d a)
  (h:Q (((cI n 0 lo:Nat):Int),1,cI n n a-cI n 0 lo) s):ag (aj prog w) A (Builtin.Slice.sliceApplied (.ref f) (pure (n:Int))) Q E s:=by
 obtain⟨j,c,i,e⟩:=id hs;unfold Builtin.Slice.sliceApplied Builtin.Slice.sliceFields;refine Za (Za (ZP c e (x:=b) rfl (Za (ZP c e (x:=d) rfl (Za (ZP c e (x:=.none) rfl (Zc ?_)))))));refine Za (slicePart_none ?_);show ag _ _ (if((1:Int)==0)=true then _ else _) _ _ s;rw[Zi 'c'];refine Za (vk pl (Za (vk g (Za (Zc ?_)))));show ag _ _ (match Builtin.Slice.sliceAdjust lo a 1 (n:Int)with|(lo,a)=>pure (lo,(1:Int),Builtin.Slice.slicePlaces lo a 1)) _ _ s;rw[qZ9 lo a n];show ag _ _ (pure (((cI n 0 lo:Nat):Int),(1:Int),Builtin.Slice.slicePlaces ((cI n 0 lo:Nat):Int) ((cI n n a:Nat):Int) 1)) _ _ s;rw[q00];exact Zc h
theorem xk2(xs:Array aa)(i k:Nat):((List.range k).filterMap λ(m:Nat)=>xs[((i:Int)+(m:Int)*1).toNat]?).toArray=((xs.toList.drop i).take k).toArray:=by
 have e:(λ(m:Nat)=>xs[((i:Int)+(m:Int)*1).toNat]?)=λm=>xs[i+m]?:=by
  funext m;have:((i:Int)+(m:Int)*1).toNat=i+m:=by lia
  rw[this]
 rw[e];have:=pick_run xs i k;rw[List.filterMap_map]at this;have a:((λx=>xs[x]?)∘λx=>i+x)=λm=>xs[i+m]?:=rfl;rw[a]at this;rw[this]
theorem gS{t d:ae}{items:Array aa}{e f:aa}{lo a:Option Int}{Q:aa->af->Prop}(b:IsTup s.heap t items)(hs:s.heap.IsSliceOf d e f .none)(pl:IsPart e lo)(g:IsPart f a)
  (hw:¬(cI items.size 0 lo=0/\cI items.size items.size a=items.size))
  (h:Q (.ref s.heap.objs.size) {s with heap:=s.heap.push {cls:=.type "tuple",data:=.seq ((items.toList.drop (cI items.size 0 lo)).take (cI items.size items.size a-cI items.size 0 lo)).toArray}})
  (hsz:items.size<=sizeLine):ag (aj prog w) A (getItem (.ref t) (.ref d)) Q E s:=by
 have c:sizeOk (.seq ((items.toList.drop (cI items.size 0 lo)).take (cI items.size items.size a-cI items.size 0 lo)).toArray):=by
  show((items.toList.drop (cI items.size 0 lo)).take (cI items.size items.size a-cI items.size 0 lo)).toArray.size<=sizeLine;rw[Zx,ZT,Z3,Yg];lia
 have u:cI items.size items.size a<=items.size:=xG5 _ _ (Zg _) a;obtain⟨p,l,i,v⟩:=id hs;have j:s.TypeIs (.ref d) "slice":=⟨p,l,i⟩;unfold getItem
 try with_reducible refine ZK ?_
 first|refine Za (Zc ?_)|skip
 refine Za (Wy b.typeIs 'c' ?_);refine Za (ZS (name:=Str.ofString "__getitem__") b.typeIs ZH
  (Z7 ZH b.typeIs We ?_ (Wp _ _)))
 show ag _ _ (Builtin.Tuple.tupleItemsOf (.ref t) >>= _) _ _ s;refine Za (tupleItemsOf_ b ?_);refine Za (Wz j ?_);rw[Zr 'c'];refine Za (dP hs pl g ?_);have k:¬((((cI items.size 0 lo:Nat):Int)==0&&(1:Int)==1&&(cI items.size items.size a-cI items.size 0 lo)==items.size)=true):=by
  intro q;rw[YB,YB]at q;have r:((cI items.size 0 lo:Nat):Int)=0:=eq_of_beq q.1.1;have x:cI items.size items.size a-cI items.size 0 lo=items.size:=eq_of_beq q.2;exact hw ⟨by lia,by lia⟩
 show ag _ _ (if(((cI items.size 0 lo:Nat):Int)==0&&(1:Int)==1&&(cI items.size items.size a-cI items.size 0 lo)==items.size)=true then _ else _) _ _ s;rw[Zi k,xk2]
 first
  |exact Za (m:=Builtin.Tuple.tupleExact _) (ZO (Zc ⟨_,rfl,Zc h⟩) c)
  |exact Za (m:=Builtin.Tuple.tupleExact _) (ZO (Za (Zc (Zc ⟨_,rfl,Zc h⟩))) c)
  |exact Za (Za (m:=Builtin.Tuple.tupleExact _) (ZO (Zc (Zc ⟨_,rfl,Zc h⟩)) c))
  |exact Za (Za (m:=Builtin.Tuple.tupleExact _) (ZO (Zc ⟨_,rfl,Zc h⟩) c))
end HT
namespace L2
open PySem PySem.Spec PyProof.Rows
abbrev TO:=St->Hp->(Option Int->Hp->Prop)->Prop
def PO(X:Cx)(e:Option ar)(t:TO):Prop:=
 ∀(c:List (ae×aw))(s:af)(a:St)(H:Hp)(Q:Option Int->Hp->Prop),Inv X c a H s->t a H Q ->
  ag (aj X.prog X.w) X.A (evalPart e X.env) (λu d=>∃o b,Inv X c a b d/\IsPart u o/\Q o b) X.xe s
def AH:TO:=λ_ H Q=>Q none H
def Dt(t:TE):TO:=λb H Q=>t b H λx a=>∃i,x=.int i/\Q (some i) a
section
variable{X:Cx}{e:ar}{te:TE}{lo hi:Option ar}{tl th:TO}{pos p2:aA}
theorem pS:PO X none AH:=by
 intro b s a H Q I h;rw[evalPart_none];exact Zc ⟨none,H,I,.none,h⟩
theorem nF(h:PE X e te):PO X (some e) (Dt te):=by
 intro j s d H Q I c;rw[evalPart_some];refine bC (h j s d H _ I c) λu k ⟨x,a,g,f,b⟩=>?_;obtain⟨i,rfl,q⟩:=b;obtain⟨t,rfl⟩:=f;exact⟨some i,a,g,.int i t,q⟩
def F_(X:Cx)(r:V->Option Int->Option Int->Hp->VK->Prop):Prop:=
 ∀(f:List (ae×aw))(s:af)(b:St)(H:Hp)(x:V)(v a d:aa)(lo hi:Option Int)(c:ae)(Q:VK),Inv X f b H s->RelV x v->s.heap.IsSliceOf c a d .none->IsPart a lo->IsPart d hi->r x lo hi H Q ->
  ∃T id,typeLookup (.type T) "__getitem__"=pure (some (.builtin id))/\s.TypeIs v T/\ag (aj X.prog X.w) X.A (getItem v (.ref c)) (EP X f b Q) X.xe s
def Hh(r:V->Option Int->Option Int->Hp->VK->Prop)(te:TE)(tl th:TO):TE:=λa H Q=>te a H λx b=>tl a b λl d=>th a d λu c=>r x l u c Q
theorem tO{r:V->Option Int->Option Int->Hp->VK->Prop}(y:F_ X r)(B:PE X e te)(D:PO X lo tl)(A:PO X hi th):PE X (.Subscript e (.Slice lo hi none p2) pos) (Hh r te tl th):=by
 intro d s c H Q I h;refine Subscript_ (bC (B d s c H _ I h) λv E ⟨x,C,K,N,F⟩=>?_);refine wpAny_Slice (bC (D d E c C _ K F) λg R ⟨l,O,j,M,w⟩=>bC (A d R c O _ j w) λf a ⟨u,i,L,m,J⟩=>?_);rw[evalPart_none];refine Zc ?_;have p:Inv X d c i {a with heap:=a.heap.push {cls:=.type "slice",data:=.fields #[g,f,.none]}}:=L.kept (t':=a.toks) λb ob q=>Zb _ q;obtain⟨T,id,G,P,k⟩:=y d {a with heap:=a.heap.push {cls:=.type "slice",data:=.fields #[g,f,.none]}} c i x v g f l u a.heap.objs.size Q p N (Heap.IsSliceOf.new ..) M m J;show ag (aj X.prog X.w) X.A (subscriptTail e (.Slice lo hi none p2) v (.ref a.heap.objs.size)) (EP X d c Q) X.xe {a with heap:=a.heap.push {cls:=.type "slice",data:=.fields #[g,f,.none]}};exact tail_any (ops:=[.ref a.heap.objs.size,v]) P G k (by with_unfolding_all rfl)
def dk(xs:List V)(lo hi:Option Int):List V:=(xs.drop (HT.cI xs.length 0 lo)).take (HT.cI xs.length xs.length hi-HT.cI xs.length 0 lo)
theorem VO(xs:List V)(lo hi:Option Int):(dk xs lo hi).length<=xs.length:=by
 unfold dk;rw[ZT,Z3];lia
inductive Cu(K:PySem.W.Frag)(x:V)(lo hi:Option Int)(H:Hp)(Q:VK):Prop
 |mk(a:_)(xs:_)(e0:x=.ref a)(e1:aQ K H a xs)(e2:¬(HT.cI xs.length 0 lo=0/\HT.cI xs.length xs.length hi=xs.length))(e3:∀p,H p=none->Q (.ref p) (upd H p (.tup (dk xs lo hi))))
def LB(K:PySem.W.Frag):V->Option Int->Option Int->Hp->VK->Prop:=λx lo hi H Q=>Cu K x lo hi H Q
theorem C_:F_ X (LB X.K):=by
 intro A s w H x v C B lo hi y Q I l k p j h;obtain⟨a,c,rfl,m,u,q⟩:=h;cases l;obtain⟨i,r,g,f⟩:=I.tuple m;have d:i.toArray.size=c.length:=by rw[Zx];exact r.length.symm
 refine⟨"tuple",_,ZH.lookup,g.typeIs,?_⟩;refine HT.gS g k p j (by rw[d];exact u) ?_ (by rw[d];exact f);rw[d];refine⟨.ref s.heap.objs.size,_,I.laid (t':=s.toks) (o:=.tup (dk c lo hi)) (λb ob q=>Zb _ q) (Zg _) ?_,rfl,q _ (I.aW.fresh (Zg _))⟩;exact⟨ZN (VO c lo hi) f,_,(r.drop (HT.cI c.length 0 lo)).take (HT.cI c.length c.length hi-HT.cI c.length 0 lo),cJ.new _ _⟩
inductive x9(K:PySem.W.Frag)(x y:V)(H:Hp)(Q:VK):Prop
 |mk(a:_)(b:_)(xs:_)(ys:_)(e0:x=.ref a)(e1:y=.ref b)(e2:aQ K H a xs)(e3:aQ K H b ys)(e4:xs≠[])(e5:xs.length+ys.length<=sizeLine)(e6:(ys=[]->Q (.ref a) H))(e7:(ys≠[]->∀p,H p=none->Q (.ref p) (upd H p (.tup (xs++ys)))))
def xN2(K:PySem.W.Frag):R2:=λx y H Q=>x9 K x y H Q
theorem Vals.lK{xs:List V}{us:List aa}(r:Vals xs us):us=[]<->xs=[]:=by
 cases r with
 |nil=>simp
 |cons _ _=>simp
theorem xw6:gF X (binaryOp .Add) (xN2 X.K):=by
 intro D s C H x y v u Q I j r h;obtain⟨a,b,p,g,rfl,rfl,i,hb,l,f,m,A⟩:=h;cases j;cases r;obtain⟨B,d,k,_⟩:=I.tuple i;obtain⟨E,c,p2,_⟩:=I.tuple hb;refine HT.uz k p2 (λz=>l (d.lK.mp z)) (λz=>⟨.ref a,H,I,rfl,m (c.lK.mp z)⟩) (λz=>?_) (by rw[<- d.length,<- c.length];exact f);refine⟨.ref s.heap.objs.size,_,I.laid (t':=s.toks) (o:=.tup (p++g)) (λb ob q=>Zb _ q) (Zg _) ?_,rfl,A (λw=>z (c.lK.mpr w)) _ (I.aW.fresh (Zg _))⟩;exact⟨by rw[Zk];exact f,_,d.append c,cJ.new _ _⟩
end
def wz(n:Nat)(i:Int):Option Nat:=if 0<=i then(if i<n then some i.toNat else none)else if -(n:Int)<=i then some (i+n).toNat else none
def Ad{a:Type}(xs:List a)(i:Int):Option a:=(wz xs.length i).bind λj=>xs[j]?
theorem V1{n:Nat}{i:Int}{j:Nat}(h:wz n i=some j):seqIndex? i n=some j/\j<n/\-(n:Int)<=i/\i<n:=by
 unfold wz at h;by_cases a:0<=i
 ·rw[Zr a]at h;by_cases h1:i<n
  ·rw[Zr h1]at h;have e:i.toNat=j:=Zu h;exact⟨by rw[seqIndex_of a h1,e],by lia,by lia,h1⟩
  ·rw[Zi h1]at h;cases h
 ·rw[Zi a]at h;by_cases h1:-(n:Int)<=i
  ·rw[Zr h1]at h;have e:(i+n).toNat=j:=Zu h;exact⟨by rw[seqIndex_neg 'a' h1,e],by lia,h1,by lia⟩
  ·rw[Zi h1]at h;cases h
theorem V0{a:Type}{xs:List a}{i:Int}{v:a}(h:Ad xs i=some v):∃j,seqIndex? i xs.length=some j/\xs[j]?=some v/\j<xs.length/\-(xs.length:Int)<=i/\i<xs.length:=by
 unfold Ad at h;cases e:wz xs.length i with
 |none=>rw[e]at h;cases h
 |some j=>
  rw[e]at h;obtain⟨h1,h2,b,c⟩:=V1 e;exact⟨j,h1,h,h2,b,c⟩
theorem kr{a:Type}{xs:List a}{j:Nat}{v:a}(h:xs[j]?=some v):Ad xs (j:Int)=some v:=by
 have b:j<xs.length:=(cx h).1;have e:wz xs.length (j:Int)=some j:=by
  unfold wz;rw[Zr 'a',Zr 'a'];simp
 unfold Ad;rw[e];exact h
def VZ(b:ar):Prop:=∀o i,subscripted b false o i=operate [o,i] (getItem o i)
def r_(X:Cx)(r:R2):Prop:=
 ∀(value slice:ar)(b:List (ae×aw))(s:af)(a:St)(H:Hp)(x y:V)(v u:aa)(Q:VK),Inv X b a H s->RelV x v->RelV y u->r x y H Q ->
  subscripted slice false v u=operate [v,u] (getItem v u)->ag (aj X.prog X.w) X.A (subscriptTail value slice v u) (EP X b a Q) X.xe s
def Gh(X:Cx)(id:String)(r:V->List V->Hp->VK->Prop):Prop:=
 ∀(d:List (ae×aw))(s:af)(b:St)(H:Hp)(x:V)(c:List V)(v:aa)(a:List aa)(Q:VK),Inv X d b H s->RelV x v->Vals c a->r x c H Q ->
  ag (aj X.prog X.w) X.A (call (.builtin id) (v::a)) (EP X d b Q) X.xe s
section
variable{X:Cx}{a b:ar}{ta tb:TE}{pos:aA}
theorem r_.or{r f:R2}(h:r_ X r)(h':r_ X f):r_ X (λx y H Q=>r x y H Q\/f x y H Q):=by
 intro d c k s e H x y v u Q I j i q g;rcases q with q|q
 ·exact h d c k s e H x y v u Q I j i q g
 ·exact h' d c k s e H x y v u Q I j i q g
theorem Te{r:R2}(f:r_ X r)(e:PE X a ta)(hb:PE X b tb)(hs:VZ b):PE X (.Subscript a b pos) (nh r ta tb):=by
 intro i s c H Q I h;exact Subscript_ (Ac e hb I h λv u l x y j d g k q=>f a b i l c j x y v u Q d g k q (hs _ _))
inductive Cz(K:PySem.W.Frag)(x y:V)(H:Hp)(Q:VK):Prop
 |mk(p:_)(xs:_)(i:_)(v:_)(e0:x=.ref p)(e1:y=.int i)(e2:bY K H p xs)(e3:Ad xs i=some v)(e4:Q v H)
def x8(K:PySem.W.Frag):R2:=λx y H Q=>Cz K x y H Q
inductive Cy(K:PySem.W.Frag)(x y:V)(H:Hp)(Q:VK):Prop
 |mk(p:_)(xs:_)(i:_)(v:_)(e0:x=.ref p)(e1:y=.int i)(e2:aQ K H p xs)(e3:Ad xs i=some v)(e4:Q v H)
def x5(K:PySem.W.Frag):R2:=λx y H Q=>Cy K x y H Q
theorem jv:r_ X (x8 X.K):=by
 intro d f A s k H x y v u Q I F N h m;obtain⟨p,S,i,z,rfl,rfl,K,J,q⟩:=h;cases F;obtain⟨t,rfl⟩:=N;obtain⟨C,r,e,R⟩:=I.list K;obtain⟨j,h1,h2,P,D,G⟩:=V0 J;obtain⟨w,B,L⟩:=r.get h2;have M:=r.length;have O:=IA;have c:EP X A k Q w s:=⟨z,H,I,L,q⟩;by_cases l:0<=i
 ·have g:i.toNat=j:=by
   rw[seqIndex_of l G]at h1;exact Zu h1
  exact item_listR e.isList l 'a' (by rw[g];simpa using B) c m
 ·have g:(i+(C.toArray.size:Int)).toNat=j:=by
   rw[seqIndex_neg 'a' D]at h1;rw[Zx,<- M];exact Zu h1
  exact subscriptTail_builtinR (x:=w) e.isList.typeIs slot_list_getitem.lookup
   (wpAny_getItem_list_neg (Q:=λr E=>r=w/\EP X A k Q r E) e.isList 'a' (by rw[Zx]<;>lia) 'a' (by rw[g];simpa using B) ⟨rfl,c⟩) m
theorem gb:r_ X (x5 X.K):=by
 intro c e g s f H x y v u Q I A G h m;obtain⟨p,P,i,z,rfl,rfl,C,B,q⟩:=h;cases A;obtain⟨t,rfl⟩:=G;obtain⟨J,r,k,O⟩:=I.tuple C;obtain⟨j,h1,h2,M,K,N⟩:=V0 B;obtain⟨w,D,E⟩:=r.get h2;have F:=r.length;have L:=IA;have d:EP X g f Q w s:=⟨z,H,I,E,q⟩;exact subscriptTail_builtinR (x:=w) k.typeIs slot_tuple_getitem.lookup
  (getItem_tuple (j:=j) (Q:=λr l=>r=w/\EP X g f Q r l) k 'a' 'a' (by rw[Zx,<- F];exact h1) (by simpa using D) ⟨rfl,d⟩) m
theorem q01(c:List aa)(n j:Nat)(u:aa):Obj.mapSeq (·.setIfInBounds j u) {cls:=.type "list",data:=.seq c.toArray n}={cls:=.type "list",data:=.seq (c.set j u).toArray n}:=by
 simp[Obj.mapSeq]
theorem Inv.lst{d:List (ae×aw)}{σ:St}{H:Hp}{s:af}{p:ae}{xs:List V}(I:Inv X d σ H s)(h:H p=some (.lst xs)):
  ∃(c:List aa)(n:Nat),Vals xs c/\s.heap.get? p=some {cls:=.type "list",data:=.seq c.toArray n}/\xs.length<=sizeLine:=by
 obtain⟨z,c,n,r,e⟩:=I.aW p _ h;exact⟨c,n,r,e,z⟩
theorem Inv.zd{i:List (ae×aw)}{σ:St}{H:Hp}{s:af}{p:ae}{xs ys:List V}{d its':List aa}{n c:Nat}{f:aw->aw}(I:Inv X i σ H s)(h:H p=some (.lst xs))
  (j:s.heap.get? p=some {cls:=.type "list",data:=.seq d.toArray n}) (g:f {cls:=.type "list",data:=.seq d.toArray n}={cls:=.type "list",data:=.seq its'.toArray c}) (r:Vals ys its') (hz:ys.length<=sizeLine) (t:Nat):
  Inv X i σ (upd H p (.lst ys)) {s with heap:=s.heap.update p f,toks:=t}:=by
 have e:(s.heap.update p f).get? p=some {cls:=.type "list",data:=.seq its'.toArray c}:=by
  rw[YG f j (by rw[g]<;>rfl),g]
 refine I.write (x:=p) (e:=p) (by rw[h];trivial) (.inl rfl) (λb u hb q=>(ZQ _ _ (Z2 hb)).trans q) ⟨_,e⟩ ?_;exact⟨hz,its',c,r,e⟩
inductive x4(o i v:V)(H:Hp)(Q:Hp->Prop):Prop
 |mk(p:_)(xs:_)(k:_)(j:_)(e0:o=.ref p)(e1:i=.int k)(e2:H p=some (.lst xs))(e3:wz xs.length k=some j)(e4:Q (upd H p (.lst (xs.set j v))))
def xN3:V->V->V->Hp->(Hp->Prop)->Prop:=λo i v H Q=>x4 o i v H Q
theorem MR:Ga X xN3:=by
 intro D s y H o i v J K u Q I B C A h;obtain⟨p,F,k,j,rfl,rfl,m,G,q⟩:=h;cases B;obtain⟨t,rfl⟩:=C;obtain⟨f,n,r,d,E⟩:=I.lst m;obtain⟨h1,h2,w,g⟩:=V1 G;have e:=r.length;have L:=IA;have x:Inv X D y (upd H p (.lst (F.set j v))) {s with heap:=s.heap.update p (Obj.mapSeq (·.setIfInBounds j u))}:=
  I.zd m d (q01 f n j u) (r.set A j) (by rw[List.length_set];exact E) s.toks
 by_cases l:0<=k
 ·have c:k.toNat=j:=by
   rw[seqIndex_of l g]at h1;exact Zu h1
  exact PySem.W.ki_setAt d l 'a' (by rw[Zx,<- e];exact g) (by rw[c];exact⟨_,x,q⟩)
 ·have c:(k+(f.toArray.size:Int)).toNat=j:=by
   rw[seqIndex_neg 'a' w]at h1;rw[Zx,<- e];exact Zu h1
  exact PySem.W.ki_setBack d 'a' (by rw[Zx,<- e];exact w) 'a' (by rw[c];exact⟨_,x,q⟩)
theorem qL8(lo c:Option Int)(n:Nat):(sliceBounds lo c none n).1=((HT.cI n 0 lo:Nat):Int)/\(sliceBounds lo c none n).2.1=((HT.cI n n c:Nat):Int)/\(sliceBounds lo c none n).2.2=1:=by
 refine⟨?_,?_,rfl⟩
 ·cases lo with
  |none=>simp[sliceBounds,HT.cI]
  |some i=>
   simp only[sliceBounds,HT.cI,Option.getD_none,show(1:Int)>0 by decide,Yt];by_cases h:i<0
   ·simp only[h,Yt]<;>lia
   ·simp only[h,Z0]<;>lia
 ·cases c with
  |none=>simp[sliceBounds,HT.cI]
  |some i=>
   simp only[sliceBounds,HT.cI,Option.getD_none,show(1:Int)>0 by decide,Yt];by_cases h:i<0
   ·simp only[h,Yt]<;>lia
   ·simp only[h,Z0]<;>lia
theorem qG5(c:List aa)(lo d:Option Int):slicePick c.toArray lo d none=((c.drop (HT.cI c.length 0 lo)).take (HT.cI c.length c.length d-HT.cI c.length 0 lo)).toArray:=by
 obtain⟨h1,h2,e⟩:=qL8 lo d c.toArray.size;unfold slicePick;rw[h1,h2,e];simp only[sliceRange_one,pick_run,Zx]<;>rfl
inductive Cv(K:PySem.W.Frag)(x:V)(lo hi:Option Int)(H:Hp)(Q:VK):Prop
 |mk(a:_)(xs:_)(e0:x=.ref a)(e1:bY K H a xs)(e2:∀p,H p=none->Q (.ref p) (upd H p (.lst (dk xs lo hi))))
def Cw(K:PySem.W.Frag):V->Option Int->Option Int->Hp->VK->Prop:=λx c d H Q=>Cv K x c d H Q
theorem Mo:F_ X (Cw X.K):=by
 intro A s w H x v C B d e y Q I k j p i h;obtain⟨a,c,rfl,l,q⟩:=h;cases k;obtain⟨u,r,f,m⟩:=I.list l;have g:=r.length;refine⟨"list",_,slot_list_getitem.lookup,f.isList.typeIs,?_⟩;refine wpAny_getItem_list_slice f.isList j p i .none 'b' ?_ (by rw[Zx]<;>lia);rw[qG5,<- g];refine⟨.ref s.heap.objs.size,_,I.laid (t':=s.toks) (o:=.lst (dk c d e)) (λb ob q=>Zb _ q) (Zg _) ?_,rfl,q _ (I.aW.fresh (Zg _))⟩;exact⟨ZN (VO c d e) m,_,0,(r.drop (HT.cI c.length 0 d)).take (HT.cI c.length c.length e-HT.cI c.length 0 d),Zh _ rfl⟩
inductive fv(K_:PySem.W.Frag)(xs:List V)(H:Hp)(Q:VK):Prop
 |mk(p:_)(ys:_)(aM:xs=[.ref p])(dh:(bY K_ H p ys\/aQ K_ H p ys))(bH:Q (.int ys.length) H)
theorem iq:iO X (.builtin "len") (fv X.K):=by
 intro v s l H w x Q I r h;obtain⟨p,g,rfl,c,q⟩:=h;obtain⟨u,rfl,j⟩:=lG r;cases j;have m:=IA;rcases c with c|c
 ·obtain⟨i,e,f,k⟩:=I.list c;have d:=e.length;exact Calls.call_len_list f.isList (by simp only[Zx]<;>lia) ⟨.int g.length,H,I.tok _,⟨s.toks+1,by rw[Zx,d]⟩,q⟩
 ·obtain⟨i,e,f,k⟩:=I.tuple c;have d:=e.length;exact len_tuple f (by simp only[Zx]<;>lia) ⟨.int g.length,H,I.tok _,⟨s.toks+1,by rw[Zx,d]⟩,q⟩
inductive fu(K_:PySem.W.Frag)(xs:List V)(H:Hp)(Q:VK):Prop
 |mk(p:_)(ys:_)(aM:xs=[.ref p])(dh:(bY K_ H p ys\/aQ K_ H p ys))(bH:∀l,H l=none->Q (.ref l) (upd H l (.lst ys)))
theorem Ie:iO X (.type "list") (fu X.K):=by
 intro E s B H F G Q I r h;obtain⟨p,v,rfl,k,q⟩:=h;obtain⟨u,rfl,D⟩:=lG r;cases D;have i:∀(d:List aa),Vals v d->v.length<=sizeLine->∀(c:ao)(f:Nat),(∀b A,s.heap.get? b=some A->c.get? b=some A) ->
   c.get? s.heap.objs.size=some {cls:=.type "list",dict:=none,data:=.seq d.toArray f,slots:=#[]}->EP X E B Q (.ref s.heap.objs.size) {s with heap:=c}:=λd g j c f l e=>
  ⟨.ref s.heap.objs.size,_,I.laid (t':=s.toks) l (Zg _) (show bV X.prog X.w _ c _ (.lst v)from⟨j,d,f,g,e⟩),rfl,q _ (I.aW.fresh (Zg _))⟩
 rcases k with k|k
 ·obtain⟨d,g,y,j⟩:=I.list k;have C:=g.length;obtain⟨o,w,x,n,m⟩:=y.isList;exact call_list_seq p (.inl rfl) w x m (λc f l e=>i d g j c f l e) (by simp only[Zx]<;>lia)
 ·obtain⟨d,g,y,j⟩:=I.tuple k;have C:=g.length;obtain⟨o,w,x,n,m⟩:=y;exact call_list_seq p (.inr rfl) w x m (λc f l e=>i d g j c f l e) (by simp only[Zx]<;>lia)
inductive de(K_:PySem.W.Frag)(xs:List V)(H:Hp)(Q:VK):Prop
 |mk(p:_)(ys:_)(aM:xs=[.ref p])(dh:((bY K_ H p ys/\∀l,H l=none->Q (.ref l) (upd H l (.tup ys)))\/(aQ K_ H p ys/\Q (.ref p) H)))
theorem Ih:iO X (.type "tuple") (de X.K):=by
 intro l s j H B C Q I r h;obtain⟨p,k,rfl,h⟩:=h;obtain⟨u,rfl,x⟩:=lG r;cases x;rcases h with⟨i,q⟩|⟨i,q⟩
 ·obtain⟨d,f,g,m⟩:=I.list i;have A:=f.length;refine call_tuple_list g.isList (λc y=>?_) (by simp only[Zx]<;>lia);have v:Inv X l j H {s with heap:=c}:=I.kept (t':=s.toks) y;have w:Inv X l j (upd H c.objs.size (.tup k)) {s with heap:=c.push {cls:=.type "tuple",data:=.seq d.toArray}}:=
   v.laid (t':=s.toks) (λb o e=>Zb _ e) (Zg _) (show bV X.prog X.w _ _ _ (.tup k)from⟨m,d,f,cJ.new _ _⟩)
  exact⟨.ref c.objs.size,_,w,rfl,q _ (v.aW.fresh (Zg _))⟩
 ·obtain⟨d,f,g,m⟩:=I.tuple i;exact call_tuple_same g ⟨.ref p,H,I,rfl,q⟩
def Tj(K:PySem.W.Frag)(T:String)(x:V)(H:Hp):Prop:=match x with
 |.str _=>T="str"
 |.int _=>T="int"
 |.ref p=>(T="list" /\ ∃d,bY K H p d)\/(T="tuple" /\ ∃o,K.lookup p=some o/\o.cls=.type "tuple" /\ o.dict=none) \/
   (T="dict" /\ ((∃c,H p=some (.dK c))\/∃c,H p=some (.dT c)))\/(T="set" /\ ∃S n,H p=some (.set S n))
 |_=>False
theorem xG7{m:List (ae×aw)}{σ:St}{H:Hp}{s:af}{T:String}{x:V}{v:aa}(I:Inv X m σ H s)(r:RelV x v)(ty:Tj X.K T x H):
  s.TypeIs v T/\∀a,v=.ref a->∃ob,s.heap.get? a=some ob/\ob.dict=none:=by
 cases x with
 |str z=>
  obtain⟨t,rfl⟩:=r;cases(show T="str"from ty);exact⟨typeIs_str s z t,λ_ e=>nomatch e⟩
 |int i=>
  obtain⟨t,rfl⟩:=r;cases(show T="int"from ty);exact⟨typeIs_int s i t,λ_ e=>nomatch e⟩
 |ref p=>
  cases r;rcases ty with⟨rfl,u,k⟩|⟨rfl,o,d,l,f⟩|⟨rfl,d⟩|⟨rfl,S,n,d⟩
  ·obtain⟨q,_,j,_⟩:=I.list k;refine⟨j.isList.typeIs,λa e=>?_⟩;cases e;obtain⟨o,n,e,c,f,_⟩:=j;exact⟨o,e,f⟩
  ·refine⟨⟨o,I.gD p o d,l⟩,λa e=>?_⟩;cases e;exact⟨o,I.gD _ o d,f⟩
  ·have z:∃o,s.heap.get? p=some o/\o.ExactDict:=by
    rcases d with⟨g,d⟩|⟨g,d⟩
    ·obtain⟨_,_,_,_,o,_,_,e,ex,_⟩:=I.aW p _ d;exact⟨o,e,ex⟩
    ·obtain⟨_,_,_,_,o,_,_,e,ex,_⟩:=I.aW p _ d;exact⟨o,e,ex⟩
   obtain⟨o,e,ex⟩:=z;refine⟨⟨o,e,ex.1⟩,λa h=>?_⟩;cases h;exact⟨o,e,ex.2.1⟩
  ·obtain⟨o,_,_,_,e,ex,_⟩:=I.aW p _ d;refine⟨⟨o,e,ex.1⟩,λa h=>?_⟩;cases h;exact⟨o,e,ex.2.1⟩
 |_=>exact False.elim ty
def Tn(K:PySem.W.Frag)(T:String)(r:V->List V->Hp->VK->Prop)(e:TE)(t:TA):TE:=λd H Q=>e d H λx c=>Tj K T x c/\t d c λg f=>r x g f Q
variable{o e:ar}{es:List ar}{to:TE}{t:TA}{name:aq}{apos dU:aA}{T id:String}{r:V->List V->Hp->VK->Prop}
theorem vo(pa:PlainAttrs T)(slot:Slot T name id)(q:typeOf (.builtin id)=pure (.type "method_descriptor"))(i:Gh X id r)(m:PE X o to)(l:PA X (e::es) t)
  (p:attributeBase o name X.env (eval o X.env)=eval o X.env:=by rfl)
  (j:((backTo dU (starEach (e::es) X.env)).all (λx=>!x.1)&&(backToKw dU (keywordEach [] X.env)).all (λx=>x.1.isSome)
   && decide ((e::es).length+([]:List Keyword).length+(if([]:List Keyword).isEmpty then 0 else 1)<30))=true:=by rfl)
  (u:(apos.endLine==dU.line)=true:=by rfl) (hs:starEach (e::es) X.env=(false,eval e X.env)::starEach es X.env:=by rfl) (C:(backTo dU (starEach es X.env)).any (·.1)=false:=by rfl):
  PE X (.Call (.Attribute o name apos) (e::es) [] dU) (Tn X.K T r to t):=by
 intro d s c H Q I h;refine wpAny_Call_method_late p j u rfl (bC (m d s c H _ I h) λv y ⟨x,w,f,g,ty,A⟩=>?_);obtain⟨h1,h2⟩:=xG7 f g ty;refine⟨T,id,pa,slot,q,h1,h2,?_⟩;have hA:=l dU d y c w _ f A;rw[hs]at hA ⊢;refine Calls.callWith_builtin (by show(false||(backTo dU (starEach es X.env)).any (·.1))=false;rw[C]<;>rfl) (Calls.evalArgs_plain ?_);exact bC hA λE G ⟨B,F,k,D,J⟩=>i d G c F x B v E Q k g D J
end
def MtM(X:Cx)(id:String)(r:V->List V->Hp->VK->Prop):Prop:=
 ∀(d:List (ae×aw))(s:af)(b:St)(H:Hp)(x:V)(c:List V)(v:aa)(a:List aa)(Q:VK),Inv X d b H s->RelV x v->Vals c a->r x c H Q ->
  ag (aj X.prog X.w) X.A (call (.builtin id) (v::a)) (EP X d b Q) X.xe s
theorem Vals.one{x:V}{us:List aa}(h:Vals [x] us):∃u,us=[u]/\RelV x u:=by
 cases h with
 |cons r t=>cases t;exact⟨_,rfl,r⟩
theorem Vals.reverse{xs:List V}{us:List aa}(h:Vals xs us):Vals xs.reverse us.reverse:=by
 induction h with
 |nil=>exact .nil
 |cons r t a=>rw[XU,XU];exact Vals.append a (.cons r .nil)
section
variable{X:Cx}{j4:List (ae×aw)}{σ:St}{H:Hp}{s:af}{l b:ae}{xs ys zs:List V}
theorem Inv.NR{a its':List aa}{n:Nat}{f:Array aa->Array aa}{t':Nat}(I:Inv X j4 σ H s)(h:H l=some (.lst xs))
  (e:s.heap.get? l=some {cls:=.type "list",data:=.seq a.toArray n}) (g:f a.toArray=its'.toArray) (d:Vals ys its') (hz:ys.length<=sizeLine):
  Inv X j4 σ (upd H l (.lst ys)) {s with heap:=s.heap.update l (Obj.mapSeq f),toks:=t'}:=by
 have q:=PySem.IsL.update e f;rw[g]at q;refine I.write (x:=l) (e:=l) (by rw[h];exact trivial) (.inl rfl) (λi u hb c=>(ZQ s.heap (Obj.mapSeq f) (Z2 hb)).trans c) ⟨_,q⟩ ?_;exact⟨hz,its',_,d,q⟩
theorem Inv.NT{a:List aa}{t':Nat}(I:Inv X j4 σ H s)(c:Vals ys a)(hz:ys.length<=sizeLine):
  Inv X j4 σ (upd H s.heap.objs.size (.lst ys)) {s with heap:=s.heap.push {cls:=.type "list",data:=.seq a.toArray},toks:=t'}:=
 I.laid (λ_ _ q=>Zb _ q) (Zg _) ⟨hz,a,0,c,Zh _ rfl⟩
theorem Inv.fresh(I:Inv X j4 σ H s):H s.heap.objs.size=none:=I.aW.fresh (Zg _)
theorem Inv.ze(I:Inv X j4 σ H s)(c:H l=some (.lst xs)):xs.length<=sizeLine/\∃(a:List aa)(n:Nat),Vals xs a/\xs.length=a.length/\s.heap.get? l=some {cls:=.type "list",data:=.seq a.toArray n}:=by
 obtain⟨z,a,n,r,e⟩:=I.aW l _ c;exact⟨z,a,n,r,r.length,e⟩
end
section
variable{X:Cx}
inductive qA(x:V)(vs:List V)(H:Hp)(Q:VK):Prop
 |mk(l:_)(xs:_)(y:_)(e0:x=.ref l)(e1:vs=[y])(e2:H l=some (.lst xs))(e3:xs.length<sizeLine)(e4:Q .cA (upd H l (.lst (xs++[y]))))
def xw7:V->List V->Hp->VK->Prop:=λx a H Q=>qA x a H Q
theorem tP:MtM X "list.append" xw7:=by
 intro i s g H x k v p Q I d c h;obtain⟨l,m,y,rfl,rfl,b,j,q⟩:=h;cases d;obtain⟨u,rfl,f⟩:=c.one;obtain⟨z,a,n,r,w,e⟩:=I.ze b;refine call_meets F.slot_list_append ⟨_,e,rfl⟩ F.entry_list_append (F.args_list_append_2 _ _) (PySem.list_append l a.toArray n u (by rw[Zx];lia)) ⟨e,?_⟩;refine⟨.cA,_,I.NR (its':=a++[u]) b e 'b' (r.append (.cons f .nil)) ?_,rfl,q⟩;rw[Zk,List.length_singleton];lia
inductive CA(x y:V)(H:Hp)(Q:VK):Prop
 |mk(l:_)(b:_)(xs:_)(zs:_)(e0:x=.ref l)(e1:y=.ref b)(e2:H l=some (.lst xs))(e3:H b=some (.lst zs))(e4:xs.length+zs.length<=sizeLine)(e5:∀p,H p=none->Q (.ref p) (upd H p (.lst (xs++zs))))
def CC:R2:=λx y H Q=>CA x y H Q
theorem C9:gF X (binaryOp .Add) CC:=by
 intro D s w H x y v u Q I g p h;obtain⟨l,b,E,zs,rfl,rfl,i,f,k,q⟩:=h;cases g;cases p;obtain⟨z,a,n,r,F,e⟩:=I.ze i;obtain⟨C,c,A,m,B,d⟩:=I.ze f;refine PySem.P.add_list e d ?_ (by rw[Zx,Zx];lia);have j:a.toArray++c.toArray=(a++c).toArray:=by simp
 rw[j];exact⟨.ref _,_,I.NT (t':=s.toks) (r.append m) (by rw[Zk];exact k),rfl,q _ I.fresh⟩
end
end L2
namespace Att
open PySem PySem.W PySem.Calls PyProof.Rows
theorem qA6{P:Params}{h:ao}:∀(c:List Int)(d:List aa),WellAll P h d (c.map WData.int)->IntsAre d c:=by
 intro c
 induction c with
 |nil=>
  intro d w;rw[Vp]at w;cases w;exact .nil
 |cons n c e=>
  intro d w;rw[ZL]at w;cases w with
  |cons a b=>
   cases a;exact .cons _ _ (e _ b)
theorem q64{l:OpenLaw}{n:Nat}(s:l.most=some n){P:Params}{h:ao}{args:List WData}{c:List aa}
  (i:l.row.toRowW.claim.pre args=true) (A:WellAll P h c args):
  ∃a j b,c=[Value.ref a]/\args=[WData.list (b.map WData.int)]/\h.get? a=some {cls:=.type "list",data:=.seq j.toArray}/\IntsAre j b/\b.length<=n:=by
 have g:WShape.hasAll [] args [.list .int]=true:=(pre_splitW i).1;have k:l.pre.holds [] {args:=args}=true:=(pre_splitW i).2;obtain⟨d,r,rfl,h1,h2⟩:=hasAllW_cons g;obtain rfl:=hasAllW_nil h2;obtain⟨B,rfl,u⟩:=hasW_list h1;obtain⟨b,rfl⟩:=items_int u;have m:b.length<=n:=by
  unfold OpenLaw.pre at k;have e:(WTm.not (.lt (.lit (.int (n:Int))) (.len (.arg 0)))).holds [] {args:=[.list (b.map .int)]}=true:=by
   have e:=(holds_andW k).1;rw[s]at e;exact e
  have f:=condW_of e (w_not (w_lt w_lit (w_len_list (w_arg rfl))));rw[Ze]at f;refine WJ λq=>?_;have v:(n:Int)<((b.length:Nat):Int):=by lia
  first
   |(rw[Zq v]at f;exact absurd f 'c')
   |(simp at f;lia)
 cases A with
 |cons w x=>
  cases x;cases w with
  |list p y=>exact⟨_,_,b,rfl,rfl,p,qA6 b _ y,m⟩
theorem q65(l:OpenLaw)(args:List WData):l.row.toRowW.claim.post args (.bool true) args=true:=
 postW_of (r:=l.row.toRowW) (X:=(true==true))
  (show WShape.has [] (.bool true) .bool=true by first|rfl|decide|simp[WShape.has,WShape.arms,WShape.armsAll])
  (show(WTm.eq .res (.lit (.bool true))).value [] {args:=args,res:=some (.bool true),after:=args}=some (.bool (true==true))from w_eq_bool (w_res rfl) w_lit) rfl
theorem mG{l:OpenLaw}{n:Nat}{q:ah}{loose:List aq}{XP:(aq->Option aa)->ao->Prop}{YP:ak->ao->Prop}{d:DefRec}
  (K:l.most=some n) (M:d.params.defaults=[])
  (call:∀(w:ak)(p b:af)(mg m:aq->Option aa)(h:ae)(o:aw)(s j c:aa)(a:ae)(g:List aa)(k:List Int),
   Ground q loose [] XP w p mg m b.heap->YP w b.heap ->
   b.heap.get? h=some o->o.data=.func (docDef d.name d.params d.body d.scope s j c)->b.heap.CodeRec j d.name->mg d.name=some (.ref h) ->
   b.heap.get? a=some {cls:=.type "list",data:=.seq g.toArray}->IntsAre g k->k.length<=n->b.gens=#[] ->
   codeAny (aj l.prog w) callerA (.call (.ref h) ⟨[.ref a],[]⟩) (λr i=>r=.ok (.ret (.bool true))/\OldK b.heap i.heap/\i.os=b.os/\AllBare i.gens) b):
  WalkO q loose XP YP l.row.toRowW d [] (λf g=>PySem.call f g):=by
 intro w p b mg m G Y h o s j c I kV J A Q x H F y v T C u O R S;obtain rfl:I=.none:=Dflts.none x M;obtain rfl:kV=.none:=Dflts.noKw x;obtain⟨a,g,k,rfl,rfl,P,e,E⟩:=q64 K C R;refine enter_call (Y7 (call w p b mg m h o s j c a g k G Y J (fd_plain A) Q H P e E F) λr i N=>?_);obtain⟨rfl,h2,L,D⟩:=N;exact⟨.inl ⟨.bool true,.bool true,[],rfl,λ_=>rfl,.bool true,q65 l _,λ_=>⟨List.Pairwise.nil,λ_ B=>(nomatch B)⟩⟩,h2,L,D⟩
end Att
namespace L2
open PySem PySem.Spec PyProof.Rows
theorem U6:∀{a:List aa}{b:List Int},IntsAre a b->Vals (b.map V.int) a
 |_,_,.nil=>.nil
 |_,_,.cons n t h=>.cons ⟨t,rfl⟩ (U6 h)
def Aj(H:Hp):Prop:=∀b,H b=none\/∃o a,H b=some (.ic o (.lst a))
theorem xk3{P:ah}{w:ak}{K:PySem.W.Frag}{mg E:aq->Option aa}{CX:lW}{k:Nat}{G a:ae}{T:ai}{x:aq}{sp:Sp}{c:af}{vs:List aa}{p:List Int}
  (R:K.In c.heap) (A:c.heap.Ns mainGlobals mg) (hb:c.heap.Ns builtinsNs E) (Fc:∀x:aq,x ≠ "__name__"->E x=bootBuiltins x) (U:c.heap.NoLimit) (Z:c.gens=#[])
  (C:c.heap.get? a=some {cls:=.type "list",data:=.seq vs.toArray}) (Q:IntsAre vs p) (S:p.length<=sizeLine) (hr:aS k callerA)
  (F:∀base:ao,K.In base->base.Ns mainGlobals mg->aB P w K mg base CX k G T [x] sp) (Fb:∀(s:af)(u:aa),BindsTo s T ⟨[u],[]⟩ [(x,u)])
  (vQ:∀H:Hp,Aj H->bY K H a (p.map V.int)->sp [.ref a] H (λv _=>v=.bl true) λ_ _ _=>False)
  (Y:∀H e f,CX [] H c (λ_ _ _=>False) e f->False):
  codeAny (aj P w) callerA (.call (.ref G) ⟨[.ref a],[]⟩) (λr f=>r=.ok (.ret (.bool true))/\OldK c.heap f.heap/\f.os=c.os/\AllBare f.gens) c:=by
 have L:=U6 Q;have NV:=Q.length;have g:∀H:Hp,Aj H->bY K H a (p.map V.int)->eV P w H c.heap->(∀b,H b≠none->b=a)->(H a≠none->K.lookup a=none) ->
   codeAny (aj P w) callerA (.call (.ref G) ⟨[.ref a],[]⟩) (λr f=>r=.ok (.ret (.bool true))/\OldK c.heap f.heap/\f.os=c.os/\AllBare f.gens) c:=by
  intro H J hS M hA X;have O:∀{b:ae}{o:aw},c.heap.get? b=some o->H b=none->(lO c.heap H).get? b=some o:=λe n=>xj2 e n;have tY:∀{b:ae}{o:aw}{j:Array DictEntry}{l:Nat},c.heap.get? b=some o->o.data=.dict j l->H b=none:=λ{b o j l} e d=>by
   cases q:H b with
   |none=>rfl
   |some u=>
    have I:b=a:=hA b (by rw[q];simp);subst I;rw[C]at e;cases e;have d':Data.seq vs.toArray _=Data.dict j l:=d;cases d'
  have D:∀{b:ae}{m:aq->Option aa},c.heap.Ns b m->(lO c.heap H).Ns b m:=λ{b m} ⟨o,j,l,e,d,r⟩=>⟨o,j,l,O e (tY e d),d,r⟩;have y:K.In (lO c.heap H):=λb o e=>O (R b o e) (by
   cases q:H b with
   |none=>rfl
   |some u=>
    have I:b=a:=hA b (by rw[q];simp);subst I;rw[X (by rw[q];simp)]at e;cases e)
  have hM:Mod K mg (lO c.heap H):=⟨y,D A,⟨E,D hb,Fc⟩,let ⟨mc,h1,h2⟩:=U;⟨mc,D h1,h2⟩⟩;have e0:lV P w K mg (lO c.heap H) callerA [] c H:=⟨rfl,hM,λb o e=>xw0 e,Wv (q42 _ _),trivial,λb hb=>absurd (show b∈([]:List ae)from hb) 'b',M,.of_eq Z⟩;refine Y7 ((F _ y (D A)).run callerA [] c H ⟨[.ref a],[]⟩ [.ref a] [.ref a] _ _ hr e0 (Fb c (.ref a)) (.cons rfl .nil) (vQ H J hS)) λr f h=>?_;cases r with
  |error e=>exact(Y H e f h).elim
  |ok fl=>
   cases fl with
   |next=>exact False.elim h
   |brk=>exact False.elim h
   |cont=>exact False.elim h
   |ret u=>
    obtain⟨v,H',os,B,un,OS,r',q⟩:=h;have q':v=.bl true:=q;subst q';obtain rfl:u=Value.bool true:=r';refine⟨rfl,OldK.of_keep λb o e=>?_,os,B⟩;cases q:H b with
    |none=>exact un.keep b o e q (by intro z;exact absurd (show b∈([]:List ae)from z) 'b') 'b'
    |some u=>
     rcases J b with z|⟨ob,xs,z⟩
     ·rw[q]at z;cases z
     ·have z2:=un.gq b ob _ z;obtain⟨N,_⟩:=M b _ z;obtain⟨W,_⟩:=OS b _ z2;rw[e]at N;cases N;exact W
 cases hk:K.lookup a with
 |some o=>
  have e:=R a o hk;rw[C]at e;cases e;refine g (λ_=>none) (λ_=>.inl rfl) (.inr ⟨_,vs.toArray,_,hk,rfl,rfl,rfl,by rw[Zx,NV];exact S,by simpa using L⟩) (λb u z=>by have i:(none:Option HO)=some u:=z;cases i) (λb z=>absurd rfl z) λz=>absurd rfl z
 |none=>
  refine g (λb=>if b=a then some (.ic {cls:=.type "list",data:=.seq vs.toArray} (.lst (p.map V.int)))else none) (λb=>?_) (.inl (.inr ⟨{cls:=.type "list",data:=.seq vs.toArray},Zr rfl⟩)) (λb u z=>?_) (λb z=>?_) λ_=>hk
  ·by_cases hb:b=a
   ·exact .inr ⟨_,_,Zr hb⟩
   ·exact .inl (Zi hb)
  ·by_cases hb:b=a
   ·have i:=(Zr hb).symm.trans z;cases i;subst hb;exact⟨C,by rw[Ze];exact S,vs,_,L,C⟩
   ·have i:=(Zi hb).symm.trans z;cases i
  ·by_cases hb:b=a
   ·exact hb
   ·exact absurd (Zi hb) z
theorem xw8{l:PySem.W.OpenLaw}{n k:Nat}{q:ah}{loose:List aq}{XP:(aq->Option aa)->ao->Prop}{YP:ak->ao->Prop}{d:DefRec}{K:Params->PySem.W.Frag}{CX:ak->lW}{sp:ak->Sp}{x:aq}
  (J:l.most=some n) (O:n<=sizeLine) (M:d.params.defaults=[]) (E:aS k callerA)
  (R:∀(w:ak)(h:ao),YP w h->(K w.params).In h)
  (F:∀(w:ak)(mg:aq->Option aa)(c:ae)(h:ao),(K w.params).In h->h.Ns mainGlobals mg->mg d.name=some (.ref c) ->
   ∃j:ai,(∀(s:af)(u:aa),BindsTo s j ⟨[u],[]⟩ [(x,u)]) /\
    ∀base:ao,(K w.params).In base->base.Ns mainGlobals mg->aB l.prog w (K w.params) mg base (CX w) k c j [x] (sp w))
  (N:∀(w:ak)(H:Hp)(a:ae)(g:List Int),g.length<=n->Aj H->bY (K w.params) H a (g.map V.int)->sp w [.ref a] H (λv _=>v=.bl true) λ_ _ _=>False)
  (C:∀(w:ak)(H:Hp)(s:af)(e:aa)(i:af),CX w [] H s (λ_ _ _=>False) e i->False):
  PySem.W.WalkO q loose XP YP l.row.toRowW d [] (λf p=>PySem.call f p):=by
 refine Att.mG J M λw aG y mg U c o W X L a p g G Y T S Z D Q b m B=>?_;have r:=R w _ Y;obtain⟨j,hb,I⟩:=F w mg c _ r G.T.g D;exact xk3 r G.T.g G.T.b G.T.builtins G.T.nolimit B Q b (ZN m O) E I hb (λH A P=>N w H a g m A P) λH e i=>C w H y e i
abbrev aJ:lW:=λ_ _ _ _ _ _=>False
abbrev E0:XK:=λ_ _ _=>False
theorem tU{X:Cx}:tH aJ X E0:=λ_ _ _ _ _ _ _ h=>h.elim
structure aP(K:PySem.W.Frag)(x qual:aq)(st:ay)(f:ae)(fd:ai):Prop where
 ex:∃(oc:aa)(od:Option ae)(kV doc pm:aa)(an:Option ae)(bp ct:aa)(pB:Array (Option aa)),
  fd=PySem.W.fnOf x qual (qF st) (oA st) (cg st) .none kV doc pm an bp ct/\K.lookup f=some ⟨oc,od,.func fd,pB⟩/\PySem.W.codeIn K bp qual=true
 kp:PySem.W.keepIn K (.ref f)=true
section
variable{mg:aq->Option aa}{base:ao}
theorem aP.ok{x b:aq}{st:ay}{f:ae}{e:ai}{N ps:List aq}{k:Nat}{sp:Sp}(F:aP K x b st f e)(S:aE N ps (cg st))(len:∀c H Q E,sp c H Q E->c.length=ps.length)
  (p:∀(d:aa)(A:au)(a:List Env)(s:af)(H:Hp)(c:List V)(Q:VK)(E:XK),aS k (A.deeper (envOfC b (cg st) s.heap.objs.size f d))->sp c H Q E ->
   ∃t,jj (ke aJ P w K mg base N b (cg st) f d A a s H E).my (oA st) t/\t {nx:=λ_ i=>Q .cA i,rt:=Q} (mX N c) H):aB P w K mg base aJ (k+1) f e ps sp:=by
 obtain⟨u,y,kV,l,C,B,d,D,v,rfl,g,r⟩:=F.ex;refine Tf g r S len λA a s H c Q E j m=>?_;obtain⟨t,h,q⟩:=p d A a s H c Q E j m;exact⟨t,h.my,q⟩
theorem aP.binds{x a:aq}{st:ay}{f:ae}{j:ai}{ps:List aq}(F:aP K x a st f j)
  (h:∀(kV b g:aa)(c:Option ae)(i d:aa)(e:List aa),e.length=ps.length->bindArgs (PySem.W.fnOf x a (qF st) (oA st) (cg st) .none kV b g c i d) ⟨e,[]⟩=pure (ps.zip e)):Binds K j ps []:=by
 obtain⟨k,m,kV,b,g,c,i,d,l,rfl,q,p⟩:=F.ex;exact .all (h kV b g c i d)
theorem M5{x a:aq}{st:ay}{f:ae}{h:aa}{j e:Option ae}{i:Array (Option aa)}{kV b g d ct:aa}(l:K.lookup f=some ⟨h,j,.func (PySem.W.fnOf x a (qF st) (oA st) (cg st) .none kV b g e d ct),i⟩)
  (c:PySem.W.codeIn K d a=true) (k:PySem.W.keepIn K (.ref f)=true):aP K x a st f (PySem.W.fnOf x a (qF st) (oA st) (cg st) .none kV b g e d ct):=⟨⟨h,j,kV,b,g,e,d,ct,i,rfl,l,c⟩,k⟩
end
theorem oH{n:Nat}(h:n<=1000):n<sizeLine:=YX h 'c'
section
variable{X:Cx}
theorem pv(i:Nat){x:aq}{a:aA}(c:X.N[i]?=some x:=by rfl)(e:uB X.env.scope x:=by first|exact Or.inl rfl|exact Or.inr (Or.inl rfl)|exact Or.inr (Or.inr rfl))(b:(x==("__debug__":aq))=false:=by decide)
  (d:(x==("__classdict__":aq))=false:=by decide):PE X (.Name x a) (eh i):=xF3 c e b d
end
theorem b_{A B:Prop}(h:B):if false=true then A else B:=by
 rw[Zi ZG];exact h
theorem cB{A B:Prop}(h:A):if true=true then A else B:=by
 rw[Zr rfl];exact h
theorem dD{c A B:Prop}[Decidable c](h1:c->A)(h2:¬c->B):if c then A else B:=by
 by_cases h:c
 ·rw[Zr h];exact h1 h
 ·rw[Zi h];exact h2 h
theorem Kh{c A B:Prop}[Decidable c](hc:c)(h:B):if(!decide c)=true then A else B:=by
 rw[Zq hc];exact b_ h
def aC(H a:Hp):Prop:=∀b o,H b=some o->a b=some o
theorem aC.refl(H:Hp):aC H H:=λ_ _ h=>h
theorem aC.trans{H e d:Hp}(a:aC H e)(b:aC e d):aC H d:=λc o h=>b c o (a c o h)
theorem aC.free{H a:Hp}(e:aC H a){l:ae}(h:a l=Option.none):H l=Option.none:=by
 cases q:H l with
 |none=>rfl
 |some o=>
  rw[e l o q]at h;cases h
theorem aC.seq{K:PySem.W.Frag}{H b:Hp}{a:ae}{xs:List V}(e:aC H b)(h:bY K H a xs):bY K b a xs:=by
 rcases h with(h|⟨o,h⟩)|h
 ·exact .inl (.inl (e _ _ h))
 ·exact .inl (.inr ⟨o,e _ _ h⟩)
 ·exact .inr h
section
variable{X:Cx}
theorem LN{env:Env}:∀{names:List (aq×NameKind)}{acc:List (aq×ae)},
  (∀p∈names,p.2=.free->∃c,cellOf env p.1=pure c/\env.cells.lookup p.1=some c) ->
  (∀y c,acc.lookup y=some c->env.cells.lookup y=some c) ->
  ∃b:List (aq×ae),(forIn names acc λp q=>(if p.2==.free then(do let c <- cellOf env p.1;pure (ForInStep.yield ((p.1,c)::q)))else pure (ForInStep.yield q):Sem (ForInStep (List (aq×ae)))))=pure b /\
   (∀y c,b.lookup y=some c->env.cells.lookup y=some c)/\(∀y,(acc.lookup y).isSome=true->(b.lookup y).isSome=true)/\∀p∈names,p.2=.free->(b.lookup p.1).isSome=true
 |[],acc,_,f=>⟨acc,by simp,f,λ_ h=>h,λ_ h=>absurd h 'b'⟩
 |(n,k)::r,acc,m,f=>by
  by_cases j:k=.free
  ·subst j;obtain⟨c,v,s⟩:=m (n,.free) Zw rfl;obtain⟨b,h1,h2,g,l⟩:=LN (env:=env) (names:=r) (acc:=(n,c)::acc) (λp a=>m p (Zn _ a)) (λy d h=>by
    rw[YC]at h;cases e:y==n with
    |true=>rw[e]at h;cases h;rw[eq_of_beq e];exact s
    |false=>rw[e]at h;exact f y d h)
   refine⟨b,?_,h2,λy e=>g y (by
    rw[YC];cases y==n with
    |true=>rfl
    |false=>exact e),λp a i=>?_⟩
   ·rw[Y3];have u:cellOf env n=pure c:=v;simp only[Vm,Yt,u,pure_bind];exact h1
   ·rcases ZB.mp a with rfl|a
    ·exact g _ (by simp[YC])
    ·exact l p a i
  ·obtain⟨b,h1,h2,g,l⟩:=LN (env:=env) (names:=r) (acc:=acc) (λp a=>m p (Zn _ a)) f;refine⟨b,?_,h2,g,λp a i=>?_⟩
   ·rw[Y3];have:(k==NameKind.free)=false:=by simpa using j
    simp only[this,Zv,Z0,pure_bind];exact h1
   ·rcases ZB.mp a with rfl|a
    ·exact absurd i j
    ·exact l p a i
def Kg(h:TI)(te:TE):TE:=λe H Q=>h e H λJ c=>∀D,c D=none->∃W:Nat->Nat->List V->Hp->Prop,(∃m,W 0 m [] (upd c D (.lst []))) /\
 ∀i m b a,W i m b a->a D=some (.lst b)/\b.length<sizeLine/\((J.stop i a/\Q (.ref D) a)\/(J.go i a/\∀y d,J.mV i a y d ->
  te (some y::e) d λv f=>f D=some (.lst b)/\∃g,g<m/\W (i+1) g (b++[v]) (upd f D (.lst (b++[v])))))
theorem qA7{scope:ax}{env:Env}(b:∀p∈scope.names,p.2=.free->∃c,env.cells.lookup p.1=some c):
  ∃a:List (aq×ae),closureFor scope env=pure a/\(∀y c,a.lookup y=some c->env.cells.lookup y=some c)/\∀p∈scope.names,p.2=.free->(a.lookup p.1).isSome=true:=by
 obtain⟨a,h1,h2,_,g⟩:=LN (env:=env) (names:=scope.names) (acc:=[]) (λp f d=>by
  obtain⟨c,e⟩:=b p f d;refine⟨c,?_,e⟩;unfold cellOf;rw[e]) (λy c h=>by simp at h)
 refine⟨a,?_,h2,g⟩;unfold closureFor;refine Eq.trans ?_ h1;simp only[bind_pure]
theorem CY{env:Env}:∀{names:List (aq×NameKind)}{y:aq}{k:NameKind},(names.map λ(n,k)=>if(k==NameKind.free&&env.scope.kind==.function&&env.kindOf n==some .cell)then(n,NameKind.cell)else(n,k)).lookup y=some k ->
  (∀p∈names,p.2≠.cell)->(k=.cell\/k=.free)->∃p∈names,p.1=y/\p.2=.free
 |[],_,_,h,_,_=>by simp at h
 |(n,b)::r,y,k,h,g,d=>by
  rw[ZL]at h;by_cases f:y=n
  ·subst f;by_cases c:b=.free
   ·exact⟨(y,b),Zw,rfl,c⟩
   ·exfalso;have e:(b==NameKind.free)=false:=by simpa using c
    simp only[e,Bool.false_and,Zv,Z0,YC,Vm,Option.some.injEq]at h;rcases d with z|z
    ·exact g _ Zw (h.trans z)
    ·exact c (h.trans z)
  ·have hb:(y==n)=false:=by simpa using f
   have i:(r.map λ(n,k)=>if(k==NameKind.free&&env.scope.kind==.function&&env.kindOf n==some .cell)then(n,NameKind.cell)else(n,k)).lookup y=some k:=by
    revert h;dsimp only;split<;>(intro h;simpa only[YC,hb]using h)
   obtain⟨p,a,e⟩:=CY i (λp a=>g p (Zn _ a)) d;exact⟨p,Zn _ a,e⟩
theorem TF{env:Env}:∀{names:List (aq×NameKind)}{y:aq},(names.map λ(n,k)=>if(k==NameKind.free&&env.scope.kind==.function&&env.kindOf n==some .cell)then(n,NameKind.cell)else(n,k)).lookup y=some .local ->
  names.lookup y=some .local
 |[],_,h=>by simp at h
 |(n,b)::r,y,h=>by
  rw[ZL]at h;by_cases a:y=n
  ·subst a;rw[YC,Vm];revert h;dsimp only;split
   ·intro h;simp[YC]at h
   ·intro h;simpa[YC]using h
  ·have hb:(y==n)=false:=by simpa using a
   rw[YC,hb];refine TF (env:=env) ?_;revert h;dsimp only;split<;>(intro h;simpa only[YC,hb]using h)
end
section
variable{κ:Type}[DecidableEq κ]
def br(kvs:List (κ×V))(k:κ):Option V:=(kvs.find? λa=>decide (a.1=k)).map (·.2)
def putK(kvs:List (κ×V))(k:κ)(v:V):List (κ×V):=
 if(kvs.any λa=>decide (a.1=k))=true then kvs.map (λa=>if a.1=k then(a.1,v)else a)else kvs++[(k,v)]
theorem pW{p:κ×V}{r:List (κ×V)}{k:κ}(e:p.1=k):br (p::r) k=some p.2:=by simp[br,XD,e]
theorem oE{p:κ×V}{r:List (κ×V)}{k:κ}(e:¬p.1=k):br (p::r) k=br r k:=by simp[br,XD,e]
theorem pV(k:κ):∀a:List (κ×V),(a.any λb=>decide (b.1=k))=(br a k).isSome
 |[]=>rfl
 |p::r=>by
  rw[List.any_cons];by_cases e:p.1=k
  ·simp only[pW e,Zq e,Bool.true_or,Option.isSome_some]
  ·rw[oE e,Zy e,Bool.false_or];exact pV k r
theorem Uo(k j:κ)(y:V):∀a:List (κ×V),br (a.map λb=>if b.1=k then(b.1,y)else b) j=(br a j).map λx=>if j=k then y else x
 |[]=>rfl
 |p::r=>by
  have c:=Uo k j y r;rw[ZL];by_cases h:p.1=k
  ·rw[Zr h];by_cases e:p.1=j
   ·rw[pW (p:=(p.1,y)) e,pW e,WU,Zr (e.symm.trans h)]
   ·rw[oE (p:=(p.1,y)) e,oE e,c]
  ·rw[Zi h];by_cases e:p.1=j
   ·rw[pW (p:=p) e,pW e,WU,Zi (λz=>h (e.trans z))]
   ·rw[oE (p:=p) e,oE e,c]
theorem U5(k j:κ)(y:V):∀a:List (κ×V),br a k=none->br (a++[(k,y)]) j=if j=k then some y else br a j
 |[],_=>by
  by_cases e:k=j
  ·rw[Zr e.symm];exact pW (p:=(k,y)) e
  ·rw[Zi (λz=>e z.symm)];exact oE (p:=(k,y)) e
 |p::r,b=>by
  rw[List.cons_append];have c:¬p.1=k:=λz=>by rw[pW z]at b;cases b
  rw[oE c]at b;have d:=U5 k j y r b;by_cases e:p.1=j
  ·rw[pW e,pW e,Zi (λz=>c (e.trans z))]
  ·rw[oE e,oE e,d]
theorem Um(kvs:List (κ×V))(k j:κ)(y:V):br (putK kvs k y) j=if j=k then some y else br kvs j:=by
 unfold putK;by_cases a:(kvs.any λb=>decide (b.1=k))=true
 ·rw[Zr a,Uo];rw[pV]at a;by_cases e:j=k
  ·obtain⟨x,c⟩:=Xo.mp a;rw[Zr e,e,c,WU,Zr rfl]
  ·rw[Zi e];cases br kvs j with
   |none=>rfl
   |some x=>rw[WU,Zi e]
 ·rw[Zi a];refine U5 k j y kvs ?_;rw[pV]at a;cases q:br kvs k with
  |none=>rfl
  |some x=>rw[q]at a;exact(a rfl).elim
theorem CW(kvs:List (κ×V))(k:κ)(v:V):(putK kvs k v).length<=kvs.length+1:=by
 unfold putK;split
 ·rw[Ze];lia
 ·rw[Zk,ZD,Vt];lia
theorem fZ.dQ{o:Option V}{u:Option aa}(r:fZ o u):o.isSome=u.isSome:=by
 cases o with
 |none=>cases u with
  |none=>rfl
  |some _=>exact(show False from r).elim
 |some _=>cases u with
  |none=>exact(show False from r).elim
  |some _=>rfl
theorem KV.val{kvs:List (κ×V)}{vs:List (κ×aa)}(r:KV kvs vs)(k:κ):fZ (br kvs k) (valueAt vs k):=by
 unfold KV at r
 induction r with
 |nil=>exact True.intro
 |@cons p q f c h t d=>
  obtain⟨h1,h2⟩:=h;by_cases e:p.1=k
  ·have a:q.1=k:=h1.symm.trans e;have b:valueAt (q::c) k=some q.2:=by simp[valueAt,XD,a]
   rw[pW e,b];exact h2
  ·have a:¬q.1=k:=λz=>e (h1.trans z);have b:valueAt (q::c) k=valueAt c k:=by simp[valueAt,XD,a]
   rw[oE e,b];exact d
theorem KV.any{kvs:List (κ×V)}{vs:List (κ×aa)}(r:KV kvs vs)(k:κ):(kvs.any λa=>decide (a.1=k))=vs.any λa=>decide (a.1=k):=by
 unfold KV at r
 induction r with
 |nil=>rfl
 |cons h t b=>rw[List.any_cons,List.any_cons,b,h.1]
theorem KV.xZ{kvs:List (κ×V)}{vs:List (κ×aa)}(r:KV kvs vs)(k:κ){y:V}{u:aa}(c:RelV y u):
  KV (kvs.map λa=>if a.1=k then(a.1,y)else a) (vs.map λa=>if a.1=k then(a.1,u)else a):=by
 unfold KV at r ⊢
 induction r with
 |nil=>exact .nil
 |@cons p q f d h t b=>
  rw[ZL,ZL];refine .cons ?_ b;obtain⟨h1,h2⟩:=h;by_cases e:p.1=k
  ·rw[Zr e,Zr (h1.symm.trans e)];exact⟨h1,c⟩
  ·rw[Zi e,Zi (λz=>e (h1.trans z))];exact⟨h1,h2⟩
theorem KV.put{kvs:List (κ×V)}{vs:List (κ×aa)}(r:KV kvs vs)(k:κ){y:V}{u:aa}(a:RelV y u):KV (putK kvs k y) (stored vs k u):=by
 unfold putK stored;rw[r.any k];by_cases e:(vs.any λb=>decide (b.1=k))=true
 ·rw[Zr e,Zr e];exact r.xZ k a
 ·rw[Zi e,Zi e];exact Paired.snoc r ⟨rfl,a⟩
theorem KV.keys{kvs:List (κ×V)}{vs:List (κ×aa)}(r:KV kvs vs):kvs.map (·.1)=vs.map (·.1):=by
 unfold KV at r
 induction r with
 |nil=>rfl
 |cons h t a=>rw[ZL,ZL,a,h.1]
theorem KV.length{kvs:List (κ×V)}{vs:List (κ×aa)}(r:KV kvs vs):kvs.length=vs.length:=XH r
end
theorem Bb{P:ah}{w:ak}{k:Key}{u:aa}(r:RelV (kV k) u):(gc P w).is k u=true:=by
 cases k with
 |inl i=>obtain⟨t,e⟩:=(show ∃t,u=Value.int i t from r);subst e;exact qQ8 P w i t
 |inr x=>obtain⟨t,e⟩:=(show ∃t,u=Value.str x t from r);subst e;exact qQ9 P w x t
theorem MY{P:ah}{w:ak}:∀{a:List Key}{b:List aa},Vals (a.map kV) b->ItemsAre (gc P w) a b
 |[],_,r=>by rw[Vp]at r;cases r;exact .nil
 |k::a,_,r=>by
  rw[ZL]at r;cases r with
  |cons h t=>exact .cons (Bb h) (MY t)
abbrev KT(H:Hp):List (List Key×V)->List (List Key×ae×aa)->Prop:=Paired λp q=>p.1=q.1/\H q.2.1=some (.tup (p.1.map kV))/\RelV p.2 q.2.2
theorem KT.val{H:Hp}{kvs:List (List Key×V)}{xs:List (List Key×ae×aa)}(r:KT H kvs xs)(k:List Key):fZ (br kvs k) ((atKey xs k).map (·.2)):=by
 induction r with
 |nil=>exact True.intro
 |@cons p q f c h t d=>
  obtain⟨h1,_,h2⟩:=h;by_cases e:p.1=k
  ·have a:q.1=k:=h1.symm.trans e;have b:atKey (q::c) k=some q.2:=by simp[atKey,XD,a]
   rw[pW e,b];exact h2
  ·have a:¬q.1=k:=λz=>e (h1.trans z);have b:atKey (q::c) k=atKey c k:=by simp[atKey,XD,a]
   rw[oE e,b];exact d
theorem KT.xZ{H:Hp}{kvs:List (List Key×V)}{xs:List (List Key×ae×aa)}(r:KT H kvs xs)(k:List Key){y:V}{u:aa}(d:RelV y u):
  KT H (kvs.map λa=>if a.1=k then(a.1,y)else a) (xs.map (putAt k u)):=by
 induction r with
 |nil=>exact .nil
 |@cons p q g f h t b=>
  rw[ZL,ZL];refine .cons ?_ b;obtain⟨h1,h2,c⟩:=h;unfold putAt;by_cases e:p.1=k
  ·rw[Zr e,Zr (h1.symm.trans e)];exact⟨h1,h2,d⟩
  ·rw[Zi e,Zi (λz=>e (h1.trans z))];exact⟨h1,h2,c⟩
theorem KT.put{H:Hp}{kvs:List (List Key×V)}{xs:List (List Key×ae×aa)}(r:KT H kvs xs)(k:List Key){b:ae}{y:V}{u:aa}(hb:H b=some (.tup (k.map kV)))(a:RelV y u):
  KT H (putK kvs k y) (storedH xs k b u):=by
 have e:(kvs.any λc=>decide (c.1=k))=(atKey xs k).isSome:=by
  rw[pV,(r.val k).dQ,Vd]
 unfold putK storedH;rw[e];by_cases q:(atKey xs k).isSome=true
 ·rw[Zr q,Zr q];exact r.xZ k a
 ·rw[Zi q,Zi q];exact Paired.snoc r ⟨rfl,hb,a⟩
theorem KT.keeps{H c:Hp}{kvs:List (List Key×V)}{xs:List (List Key×ae×aa)}(r:KT H kvs xs)(d:∀b a,H b=some (.tup a)->c b=some (.tup a)):KT c kvs xs:=
 Paired.zc r λ_ _ z=>⟨z.1,d _ _ z.2.1,z.2.2⟩
section
variable{H:Hp}{h:ao}{a:ae}
theorem Td{u:HO}(ok:eV P w H h)(e:Rd H a u):bV P w H h a u:=e.ok ok
theorem Ba{kvs:List (Key×V)}(ok:eV P w H h)(e:Rd H a (.dK kvs)):kvs.length<=sizeLine/\(a==sysModules)=false/\∃b,KV kvs b/\h.DictOf (gc P w) a b:=
 show bV P w H h a (.dK kvs)from Td ok e
theorem A_{kvs:List (Key×V)}(ok:eV P w H h)(e:H a=some (.dK kvs)):kvs.length<=sizeLine/\(a==sysModules)=false/\∃b,KV kvs b/\h.DictOf (gc P w) a b:=Ba ok (.inl e)
theorem yx{b:List Key}(ok:eV P w H h)(e:H a=some (.tup (b.map kV))):(tupleKind (gc P w)).is h b a:=by
 obtain⟨_,d,r,o,h1,h2,n,c⟩:=(show bV P w H h a (.tup (b.map kV))from ok a _ e);exact⟨o,d.toArray,n,h1,h2,c,by simpa using MY r⟩
theorem Ds{kvs:List (List Key×V)}(ok:eV P w H h)(e:Rd H a (.dT kvs)):kvs.length<=sizeLine/\(a==sysModules)=false /\
  ∃c,KT H kvs c/\h.DictOfH (tupleKind (gc P w)) a c:=by
 obtain⟨z,y,c,r,o,f,g,h1,h2,k,s,j⟩:=(show bV P w H h a (.dT kvs)from Td ok e);refine⟨z,y,c,r,o,f,g,h1,h2,k,s,λx b=>?_,j⟩;have all:∀{l:List (List Key×V)}{m:List (List Key×ae×aa)},KT H l m->∀x∈m,(tupleKind (gc P w)).is h x.1 x.2.1:=by
  intro l m q
  induction q with
  |nil=>intro x b;exact nomatch b
  |@cons p q v u d t i=>
   intro x b;rcases ZB.mp b with e|b
   ·subst e;exact yx ok (by rw[<- d.1];exact d.2.1)
   ·exact i x b
 exact all r x b
theorem Kf{kvs:List (List Key×V)}(ok:eV P w H h)(e:H a=some (.dT kvs)):kvs.length<=sizeLine/\(a==sysModules)=false /\
  ∃b,KT H kvs b/\h.DictOfH (tupleKind (gc P w)) a b:=Ds ok (.inl e)
end
def cS(H:Hp)(a:ae)(y:V)(r:Option V):Prop:=
 (∃c k,Rd H a (.dK c)/\y=kV k/\r=br c k)\/∃c k b,Rd H a (.dT c)/\y=.ref b/\H b=some (.tup (k.map kV))/\r=br c k
def gZ(H:Hp)(a:ae)(y v:V)(d:Hp):Prop:=
 (∃c k,H a=some (.dK c)/\y=kV k/\c.length<sizeLine/\d=upd H a (.dK (putK c k v))) \/
 ∃c k b,H a=some (.dT c)/\y=.ref b/\H b=some (.tup (k.map kV))/\c.length<sizeLine/\d=upd H a (.dT (putK c k v))
theorem cS.k{H:Hp}{a:ae}{kvs:List (Key×V)}{k:Key}(e:H a=some (.dK kvs)):cS H a (kV k) (br kvs k):=.inl ⟨kvs,k,.inl e,rfl,rfl⟩
theorem cS.t{H:Hp}{a b:ae}{kvs:List (List Key×V)}{k:List Key}(e:H a=some (.dT kvs))(c:H b=some (.tup (k.map kV))):cS H a (.ref b) (br kvs k):=.inr ⟨kvs,k,b,.inl e,rfl,c,rfl⟩
theorem gZ.k{H:Hp}{a:ae}{kvs:List (Key×V)}{k:Key}{v:V}(e:H a=some (.dK kvs))(b:kvs.length<sizeLine):gZ H a (kV k) v (upd H a (.dK (putK kvs k v))):=.inl ⟨kvs,k,e,rfl,b,rfl⟩
theorem gZ.t{H:Hp}{a b:ae}{kvs:List (List Key×V)}{k:List Key}{v:V}(e:H a=some (.dT kvs))(c:H b=some (.tup (k.map kV)))(d:kvs.length<sizeLine):
  gZ H a (.ref b) v (upd H a (.dT (putK kvs k v))):=.inr ⟨kvs,k,b,e,rfl,c,d,rfl⟩
section
variable{X:Cx}{j4:List (ae×aw)}{σ:St}{H:Hp}{s:af}{a:ae}{y v:V}{u r:aa}{o:Option V}{A:au}{E:aa->af->Prop}
theorem Inv.big(I:Inv X j4 σ H s):sysModules<s.heap.objs.size:=by
 have h:mainGlobals<s.heap.objs.size:=(I.mod.glob.keeps I.bk).lt;exact WA 'c' h
theorem q68{Q:aa->af->Prop}(D:A.units+1<cLine)(I:Inv X j4 σ H s)(g:cS H a y (some v))(x:RelV y u)(h:∀d w,Inv X j4 σ H w->RelV v d->Q d w):
  ag (aj X.prog X.w) A (getItem (.ref a) u) Q E s:=by
 rcases g with⟨f,k,e,i,l⟩|⟨f,k,b,e,i,K,l⟩
 ·subst i;obtain⟨z,B,F,c,j⟩:=Ba I.aW e;obtain⟨d,m,q⟩:=fZ.some_of (v:=v) (o:=valueAt F k) (by rw[l];exact c.val k);exact wpAny_getItem_of (Bb x) j.mapOf m (h d _ (I.tok _) q)
 ·subst i;cases(show u=Value.ref b from x);obtain⟨z,B,G,c,j⟩:=Ds I.aW e;obtain⟨d,m,q⟩:=fZ.some_of (v:=v) (o:=(atKey G k).map (·.2)) (by rw[l];exact c.val k);obtain⟨p,C,J⟩:=Zp.mp m;refine wpAny_getItem_heap (Xy D) (yx I.aW K) j C ?_;rw[J];exact h d _ (I.tok _) q
theorem QJ{Q:aa->af->Prop}(x:A.units+1<cLine)(I:Inv X j4 σ H s)(g:cS H a y o)(p:RelV y u)(h:∀m,Inv X j4 σ H m->Q (.bool o.isSome) m):
  ag (aj X.prog X.w) A (compareOp .In u (.ref a)) Q E s:=by
 rcases g with⟨f,k,e,i,l⟩|⟨f,k,b,e,i,w,l⟩
 ·subst i;obtain⟨z,d,B,c,j⟩:=Ba I.aW e;refine wpAny_in_of (Bb p) d j.mapOf ?_;rw[<- (c.val k).dQ,<- l];exact h _ (I.tok _)
 ·subst i;cases(show u=Value.ref b from p);obtain⟨z,d,C,c,j⟩:=Ds I.aW e;refine wpAny_in_heap (Xy x) (yx I.aW w) d j ?_;have q:=(c.val k).dQ;rw[Vd]at q;rw[<- q,<- l];exact h _ (I.tok _)
theorem xx2{Q:aa->af->Prop}(x:A.units+1<cLine)(I:Inv X j4 σ H s)(g:cS H a y o)(p:RelV y u)(h:∀m,Inv X j4 σ H m->Q (.bool (!o.isSome)) m):
  ag (aj X.prog X.w) A (compareOp .NotIn u (.ref a)) Q E s:=by
 rcases g with⟨f,k,e,i,l⟩|⟨f,k,b,e,i,w,l⟩
 ·subst i;obtain⟨z,d,B,c,j⟩:=Ba I.aW e;refine wpAny_notIn_of (Bb p) d j.mapOf ?_;rw[<- (c.val k).dQ,<- l];exact h _ (I.tok _)
 ·subst i;cases(show u=Value.ref b from p);obtain⟨z,d,C,c,j⟩:=Ds I.aW e;refine wpAny_notIn_heap (Xy x) (yx I.aW w) d j ?_;have q:=(c.val k).dQ;rw[Vd]at q;rw[<- q,<- l];exact h _ (I.tok _)
theorem AG{h':ao}{t':Nat}{ob:HO}(I:Inv X j4 σ H s)(d:Gg (H a))(hs:Heap.SameBut a s.heap h')(c:∃q,h'.get? a=some q)(new:bV X.prog X.w (upd H a ob) h' a ob):
  Inv X j4 σ (upd H a ob) {s with heap:=h',toks:=t'}:=
 I.write (x:=a) (e:=a) d (.inl rfl) (λb q hb z=>(hs.2 b hb).trans z) c new
theorem M4{P:ah}{w:ak}{d:Hp}{h':ao}{kvs:List (Key×V)}{vs:List (Key×aa)}(z:kvs.length<=sizeLine)(c:(a==sysModules)=false)(b:KV kvs vs)(dd:h'.DictOf (gc P w) a vs):
  bV P w d h' a (.dK kvs):=⟨z,c,vs,b,dd⟩
theorem q70{G:Hp}{Q:Unit->af->Prop}(P:A.units+1<cLine)(I:Inv X j4 σ H s)(g:gZ H a y v G)(N:RelV y u)(F:RelV v r)(h:∀J,Inv X j4 σ G J->Q () J):
  ag (aj X.prog X.w) A (setItem (.ref a) u r) Q E s:=by
 rcases g with⟨f,k,e,w,l,C⟩|⟨f,k,b,e,w,M,l,C⟩
 ·subst w C;obtain⟨z,m,U,d,B⟩:=A_ I.aW e;have x:U.length<=sizeLine:=by rw[<- d.length];exact z
  have D:(putK f k v).length<=sizeLine:=by have:=CW f k v;lia
  refine wpAny_setItem_pairs (hsz:=x) (Bb N) B λK i p=>h _ ?_;have T:∃q,K.get? a=some q:=let ⟨q,_,_,j,_⟩:=i;⟨q,j⟩;exact AG I (by rw[e];exact True.intro) p T (M4 D m (d.put k F) i)
 ·subst w C;cases(show u=Value.ref b from N);obtain⟨z,m,V,d,B⟩:=Kf I.aW e;have x:V.length<=sizeLine:=by rw[<- XH d];exact z
  have D:(putK f k v).length<=sizeLine:=by have:=CW f k v;lia
  refine wpAny_setItem_heap (hsz:=x) (Xy P) (yx I.aW M) B λK i p=>h _ ?_;obtain⟨q,W,Y,j,h2,R,O,_,S⟩:=i;refine AG I (by rw[e];exact True.intro) p ⟨q,j⟩ ⟨D,m,_,(d.put k M F).keeps λc Z L=>?_,q,W,Y,j,h2,R,O,S⟩;rw[bo (Dw L e (λz=>nomatch z))];exact L
end
section
variable{X:Cx}{j4:List (ae×aw)}{σ:St}{H:Hp}{s:af}{a:ae}{kvs:List (Key×V)}{k:Key}{u:aa}{A:au}{E:aa->af->Prop}
theorem xN4{Q:aa->af->Prop}(I:Inv X j4 σ H s)(e:Rd H a (.dK kvs))(h:∀t c,Inv X j4 σ H c->Q (.int kvs.length t) c):ag (aj X.prog X.w) A (call (.builtin "len") [.ref a]) Q E s:=by
 obtain⟨z,d,g,b,f⟩:=Ba I.aW e;refine call_len_dict d f (by rw[<- b.length];rw[YV]at z;lia) ?_;rw[<- b.length];exact h _ _ (I.tok _)
end
def Gf(i:ar):Prop:=∀a b,subscripted i false a b=operate [a,b] (getItem a b)
theorem xx3{prog:ah}{w:ak}{A:au}{E:aa->af->Prop}{s:af}{env:Env}{b a:ar}{f:aA}{T id:String}{Q:aa->af->Prop}
  (l:typeLookup (.type T) "__getitem__"=pure (some (.builtin id))) (hs:Gf a)
  (h:ag (aj prog w) A (eval b env) (λo g=>ag (aj prog w) A (eval a env) (λi d=>d.TypeIs o T/\ag (aj prog w) A (getItem o i) Q E d) E g) E s):
  ag (aj prog w) A (eval (.Subscript b a f) env) Q E s:=by
 refine Subscript_ (Yz h (λo g p=>Yz p (λi d e=>?_) λ_ _ x=>x) λ_ _ x=>x);obtain⟨k,e⟩:=e;unfold subscriptTail;refine Za ?_;rw[getitemInPython_of_ne k.not_modules];refine Za (wpAny_specialOf k l ?_);have c:ag (aj prog w) A (subscripted a false o i) (λr j=>ag (aj prog w) A (letTemporaryGo b o r >>= λ_=>pure r) Q E j) E d:=by
  rw[hs o i];exact wpAny_operating (Yz e (λr j m=>Za (wpAny_letTemporaryGo (Zc m))) λ_ _ x=>x)
 first
  |exact Zc (Za c)
  |exact Za (Zc (Za c))
  |exact Za c
theorem qR3{X:Cx}{f:List (ae×aw)}{σ:St}{H:Hp}{s:af}{a:ae}{y:V}{o:Option V}(I:Inv X f σ H s)(g:cS H a y o):s.TypeIs (.ref a) "dict":=by
 rcases g with⟨c,k,e,_,_⟩|⟨c,k,b,e,_,_,_⟩
 ·obtain⟨_,_,h,_,d⟩:=Ba I.aW e;exact d.typeIs
 ·obtain⟨_,_,i,_,d⟩:=Ds I.aW e;exact d.typeIs
inductive xC(Q:VK)(x y:V)(H2:Hp):Prop
 |mk(a:_)(v:_)(e0:x=.ref a)(e1:cS H2 a y (some v))(e2:Q v H2)
def xN5(c ty:TE):TE:=λa H Q=>c a H λx b=>ty a b λy d=>xC Q x y d
inductive BY(Q:VK)(x y:V)(H2:Hp):Prop
 |mk(a:_)(o:_)(e0:x=.ref a)(e1:cS H2 a y o)(e2:Q (.bl o.isSome) H2)
def Lf(ty c:TE):TE:=λa H Q=>ty a H λy b=>c a b λx d=>BY Q x y d
inductive qd(Q:VK)(x y:V)(H2:Hp):Prop
 |mk(a:_)(o:_)(e0:x=.ref a)(e1:cS H2 a y o)(e2:Q (.bl (!o.isSome)) H2)
def xx4(ty c:TE):TE:=λa H Q=>ty a H λy b=>c a b λx d=>qd Q x y d
inductive xX(D:Ends)(σ:St)(v x y:V)(H3:Hp):Prop
 |mk(a:_)(H4:_)(e0:x=.ref a)(e1:gZ H3 a y v H4)(e2:D.nx σ H4)
def xN6(e ty c:TE):TS:=λD a H=>c a H λv b=>e a b λx f=>ty a f λy d=>xX D a v x y d
section
variable{X:Cx}{o i e value:ar}{pos pos' jn:aA}{td ty tv:TE}
theorem AF(j:X.A.units+1<cLine)(f:PE X o td)(w:PE X i ty)(hs:Gf i):PE X (.Subscript o i pos) (xN5 td ty):=by
 intro d s b H Q I h;refine xx3 PySem.F.slot_dict_getitem.lookup hs (bC (f d s b H _ I h) λu m ⟨x,l,q,k,p⟩=>bC (w d m b l _ q p) λF J ⟨y,B,c,C,a,v,ex,g,D⟩=>?_);subst ex;obtain rfl:u=Value.ref a:=k;exact⟨qR3 c g,q68 j c g C λE G r A=>⟨v,B,r,A,D⟩⟩
theorem Iy(k:X.A.units+1<cLine)(w:PE X i ty)(j:PE X o td):PC X .In i o (Lf ty td):=by
 intro c s b H Q I h;refine bC (w c s b H _ I h) λD p ⟨y,m,r,B,q⟩=>bC (j c p b m _ r q) λu F ⟨x,A,d,l,a,f,ex,g,C⟩=>?_;subst ex;obtain rfl:u=Value.ref a:=l;exact QJ k d g B λE v=>⟨.bl f.isSome,A,v,rfl,C⟩
theorem HU(k:X.A.units+1<cLine)(w:PE X i ty)(j:PE X o td):PC X .NotIn i o (xx4 ty td):=by
 intro c s b H Q I h;refine bC (w c s b H _ I h) λD p ⟨y,m,r,B,q⟩=>bC (j c p b m _ r q) λu F ⟨x,A,d,l,a,f,ex,g,C⟩=>?_;subst ex;obtain rfl:u=Value.ref a:=l;exact xx2 k d g B λE v=>⟨.bl (!f.isSome),A,v,rfl,C⟩
theorem AE(m:X.A.units+1<cLine)(l:PE X o td)(G:PE X i ty)(J:PE X value tv)(hs:swapsWith value (some (.Subscript o i pos')) pos.line X.env=pure false):
  PS X (.Assign [.Subscript o i pos'] value pos) (xN6 td ty tv):=by
 intro c s b H D I h;refine wpAny_Assign_Subscript (bC (J c s b H _ I h) λr w ⟨v,q,E,f,A⟩=>bC (l c w b q _ E A) λu M ⟨x,K,d,p,k⟩=>bC (G c M b K _ d k) λN Q ⟨y,P,F,L,a,B,ex,g,C⟩=>?_) hs;subst ex;obtain rfl:u=Value.ref a:=p;exact q70 m F g L f λO j=>⟨b,B,j,C⟩
end
theorem xk4{P:ah}{w:ak}{H:Hp}(h:ao)(hb:sysModules<h.objs.size):bV P w H (h.push {cls:=.type "dict",data:=.dict #[]}) h.objs.size (.dK []):=
 ⟨ZU _,YD.mpr (Z2 (Zz hb)),[],.nil,Heap.DictOf.new h⟩
theorem Ul{P:ah}{w:ak}{H:Hp}(h:ao)(hb:sysModules<h.objs.size):bV P w H (h.push {cls:=.type "dict",data:=.dict #[]}) h.objs.size (.dT []):=
 ⟨ZU _,YD.mpr (Z2 (Zz hb)),[],.nil,_,#[],0,Zh _ rfl,⟨rfl,rfl,rfl⟩,rfl,rfl,XZ⟩
def xG9:TE:=λ_ H Q=>∀p,H p=none->Q (.ref p) (upd H p (.dT []))
section
variable{X:Cx}{pos:aA}
theorem MQ:PE X (.Dict [] [] pos) xG9:=λc s b H Q I h=>
 wpAny_Dict_empty ⟨.ref s.heap.objs.size,_,I.laid (a:=s.heap.objs.size) (o:=.dT []) (t':=s.toks) (λ_ _ q=>Zb _ q) (Zg _) (Ul s.heap I.big),rfl,h _ (I.aW.fresh (Zg _))⟩
end
def Iw:List (TE×TE)->St->Hp->(List (V×V)->Hp->Prop)->Prop
 |[],_,H,Q=>Q [] H
 |(e,c)::r,a,H,Q=>e a H λx b=>c a b λy f=>Iw r a f λg d=>Q ((x,y)::g) d
abbrev VV:List (V×V)->List (aa×aa)->Prop:=Paired λp q=>RelV p.1 q.1/\RelV p.2 q.2
def BF(X:Cx)(c:aA)(keys:List (Option ar))(a:List ar)(h:List (TE×TE)):Prop:=
 ∀(f:List (ae×aw))(s:af)(b:St)(H:Hp)(Q:List (V×V)->Hp->Prop),Inv X f b H s->Iw h b H Q ->
  ag (aj X.prog X.w) X.A (evalPairs (pairTrees keys a X.env c)) (λi g=>∃e d,Inv X f b d g/\VV e i/\Q e d) X.xe s
theorem xx5{X:Cx}{a:aA}:BF X a [] [] []:=λc s b H Q I h=>pairTrees_nil_walk ⟨[],H,I,.nil,h⟩
theorem xk5{X:Cx}{a:aA}{k v:ar}{f:List (Option ar)}{vs:List ar}{tk g:TE}{e:List (TE×TE)}(i:PE X k tk)(E:PE X v g)(l:BF X a f vs e):
  BF X a (some k::f) (v::vs) ((tk,g)::e):=λd s b H Q I h=>
 pairTrees_cons_walk (bC (i d s b H _ I h) λu r ⟨x,q,C,m,w⟩=>bC (E d r b q _ C w) λM J ⟨y,F,j,G,K⟩=>
  bC (l d J b F _ j K) λL N ⟨p,A,D,c,B⟩=>⟨(x,y)::p,A,D,.cons ⟨m,G⟩ c,B⟩)
def pO(kvs more:List (Key×V)):List (Key×V):=more.foldl (λa b=>putK a b.1 b.2) kvs
theorem KV.merge:∀{more:List (Key×V)}{c:List (Key×aa)}{a:List (Key×V)}{b:List (Key×aa)},KV more c->KV a b->KV (pO a more) (merged b c):=by
 intro more c a b r;unfold KV at r
 induction r generalizing a b with
 |nil=>intro q;exact q
 |@cons p q i g h t d=>
  intro f;have e:KV (putK a p.1 p.2) (stored b q.1 q.2):=by
   have:=f.put p.1 h.2;rw[<- h.1];exact this
  exact d e
theorem LU:∀(more a:List (Key×V)),(pO a more).length<=a.length+more.length
 |[],a=>by show a.length<=a.length+0;lia
 |p::r,a=>by
  have h1:=LU r (putK a p.1 p.2);have h2:=CW a p.1 p.2;show(pO (putK a p.1 p.2) r).length<=_;rw[ZD];lia
theorem VG{P:ah}{w:ak}:∀{d:List (Key×V)}{f:List (aa×aa)},VV (d.map λg=>(kV g.1,g.2)) f->∃e,Carries (gc P w) f e/\KV d e
 |[],_,r=>by rw[Vp]at r;cases r;exact⟨[],True.intro,.nil⟩
 |p::d,_,r=>by
  rw[ZL]at r;cases r with
  |@cons a b k bs h t=>
   obtain⟨e,c,q⟩:=VG (P:=P) (w:=w) t;obtain⟨j,i⟩:=b;exact⟨(p.1,i)::e,⟨Bb h.1,rfl,c⟩,.cons ⟨rfl,h.2⟩ q⟩
def Tb(d:List (TE×TE)):TE:=λe H Q=>∀p,H p=none->Iw d e (upd H p (.dK [])) λf c=>c p=some (.dK [])/\∃a:List (Key×V),f=a.map (λb=>(kV b.1,b.2))/\a.length<=15/\Q (.ref p) (upd c p (.dK (pO [] a)))
theorem xx6{X:Cx}{f:aA}{keys:List (Option ar)}{b:List ar}{i:List (TE×TE)}(h:BF X f keys b i)(F:keys.all (·.isSome)=true)(K:keys.length=b.length)(h0:keys≠[])
  (G:keys.length<=15):PE X (.Dict keys b f) (Tb i):=by
 intro A s m H Q I q;have x:=I.aW.fresh (Zg s.heap.objs.size);have D:=I.laid (a:=s.heap.objs.size) (o:=.dK []) (h':=s.heap.push {cls:=.type "dict",data:=.dict #[]}) (t':=s.toks) (λ_ _ q=>Zb _ q) (Zg _) (xk4 s.heap I.big);refine wpAny_Dict_walk (knd:=gc X.prog X.w) F K h0 G (bC (h A _ m _ _ D (q _ x)) λN S ⟨O,R,k,g,e,d,J,M,L⟩=>?_);subst J;obtain⟨r,c,u⟩:=VG (P:=X.prog) (w:=X.w) g;obtain⟨z,l,v,p,E⟩:=A_ k.aW e;cases p;refine⟨r,c,E,λh' j y=>⟨.ref s.heap.objs.size,_,?_,rfl,L⟩⟩;have C:(pO [] d).length<=sizeLine:=by
  have h1:=LU d [];rw[Vt]at h1;rw[YV];lia
 have B:∃q,h'.get? s.heap.objs.size=some q:=let ⟨q,_,_,hq,_⟩:=j;⟨q,hq⟩;exact AG k (by rw[e];exact True.intro) y B (M4 C l (u.merge .nil) j)
section
variable{X:Cx}
inductive mQ(xs:List V)(H:Hp)(Q:VK):Prop
 |mk(a:_)(kvs:_)(aM:xs=[V.ref a])(dh:H a=some (.dK kvs))(bH:Q (.int kvs.length) H)
theorem q71:iO X (.builtin "len") mQ:=by
 intro k s i H j g Q I r h;obtain⟨a,b,rfl,e,q⟩:=h;obtain⟨u,rfl,c⟩:=lG r;cases c;exact xN4 I (.inl e) λt f d=>⟨.int b.length,H,d,⟨t,rfl⟩,q⟩
end
end L2
namespace cY
open PySem
def g:Nat->Nat
 |0=>0
 |n+1=>5*g n+1
def F:Nat->Nat->Nat
 |0,x=>x
 |n+1,x=>5*F n x+1
theorem Al(n x:Nat):F n x=x+g n*(4*x+1):=by
 induction n with
 |zero=>simp[F,g]
 |succ n a=>
  show 5*F n x+1=x+(5*g n+1)*(4*x+1);rw[a,Nat.add_mul,Nat.one_mul,XI];lia
theorem Ke(m n x:Nat):F (m+n) x=F m (F n x):=by
 induction m with
 |zero=>simp[F]
 |succ m a=>
  rw[Nat.succ_add];show 5*F (m+n) x+1=5*F m (F n x)+1;rw[a]
theorem g_F(n:Nat):g n=F n 0:=by
 rw[Al];simp
theorem xN7(m n:Nat):g (m+n)=g n+g m*(4*g n+1):=by
 rw[g_F,Ke,Al m,<- g_F n]
theorem Ta:∀k:Nat,∃c,g (2^k)=2^k*(2*c+1)
 |0=>⟨0,rfl⟩
 |k+1=>by
  obtain⟨c,a⟩:=Ta k;have e:g (2^(k+1))=g (2^k)*(4*g (2^k)+2):=by
   rw[YZ,Nat.mul_two,xN7];generalize g (2^k)=y;rw[WM,WM];lia
  rw[e,a];refine⟨2^k*(2*c+1)*(2*c+1)+c,?_⟩;rw[YZ];generalize 2^k=p;have h1:p*(2*c+1)*(4*(p*(2*c+1))+2)=p*2*((2*c+1)*(2*(p*(2*c+1))+1)):=by
   have:4*(p*(2*c+1))+2=2*(2*(p*(2*c+1))+1):=by lia
   rw[this,XI,XI,Nat.mul_left_comm (2*c+1) 2]
  rw[h1];congr 1;rw[WM,Nat.mul_one,Nat.mul_left_comm,Vq (2*c+1) (p*(2*c+1))];lia
theorem IT(k a q:Nat):(2^k*a+q)%2^(k+1)=(2^k*(a%2)+q)%2^(k+1):=by
 have b:a=2*(a/2)+a%2:=by lia
 have:2^k*a+q=(2^k*(a%2)+q)+2^(k+1)*(a/2):=by
  have h:2^k*a+q=2^k*(2*(a/2)+a%2)+q:=by rw[<- b]
  rw[h,YZ,WM,XI];lia
 rw[this,Nat.add_mul_mod_self_left]
theorem S_:∀(k x y:Nat),∃r,r<2^k/\F r x%2^k=y%2^k
 |0,x,y=>⟨0,by decide,by simp[Nat.mod_one]⟩
 |k+1,x,y=>by
  obtain⟨r,j,e⟩:=S_ k x y;obtain⟨c,g⟩:=Ta k;have b:F (2^k+r) x=F r x+2^k*(2*c+1)*(4*F r x+1):=by
   rw[Ke,Al (2^k),g]
  have a:2^k*(y/2^k)+y%2^k=y:=Nat.div_add_mod y _;have f:2^k*(F r x/2^k)+F r x%2^k=F r x:=Nat.div_add_mod _ _;by_cases h:F r x/2^k%2=y/2^k%2
  ·refine⟨r,by lia,?_⟩;rw[<- f,<- a,IT,h,<- IT,e]
  ·refine⟨2^k+r,by lia,?_⟩;rw[b];generalize F r x=z at *;have o:(2*c+1)*(4*z+1)=2*(c*(4*z+1)+2*z)+1:=by
    rw[Nat.add_mul,Nat.one_mul,XI];lia
   have i:z+2^k*(2*c+1)*(4*z+1)=2^k*(z/2^k+(2*(c*(4*z+1)+2*z)+1))+z%2^k:=by
    rw[XI,o,WM (2^k) (z/2^k)];lia
   rw[i,<- a,IT,e];have d:(z/2^k+(2*(c*(4*z+1)+2*z)+1))%2=y/2^k%2:=by lia
   rw[d,<- IT]
def lX(mask:Nat):Nat->Nat->Nat->Nat
 |0,i,_=>i
 |r+1,i,p=>lX mask r (SetTable.leap mask i p).1 (SetTable.leap mask i p).2
theorem VN(k:Nat):∀(r i:Nat),lX (2^k-1) r (i%2^k) 0=F r i%2^k
 |0,i=>rfl
 |r+1,i=>by
  have c:0<2^k:=Wk k;show lX (2^k-1) r ((i%2^k*5+1+0/32)%(2^k-1+1)) (0/32)=_;have b:2^k-1+1=2^k:=by lia
  have a:(i%2^k*5+1+0/32)%2^k=(5*i+1)%2^k:=by
   simp only[Nat.zero_div,Nat.add_zero];rw[Nat.add_mod,Nat.mul_mod,Nat.mod_mod,<- Nat.mul_mod,<- Nat.add_mod,Vq]
  rw[b,a,Nat.zero_div,VN k r (5*i+1)];have:F r (5*i+1)=F (r+1) i:=by rw[Ke r 1 i];rfl
  rw[this]
theorem VF(mask:Nat):∀(a b i p:Nat),lX mask (a+b) i p=lX mask b (lX mask a i p) (p/32^a)
 |0,b,i,p=>by simp[lX]
 |a+1,b,i,p=>by
  rw[Nat.succ_add];show lX mask (a+b) _ _=lX mask b (lX mask a _ _) _;rw[VF mask a b];show lX mask b _ (p/32/32^a)=_;rw[Nat.div_div_eq_div_mul,YZ,Vq (32^a) 32]
theorem UZ(mask:Nat):∀(a i p:Nat),i<mask+1->lX mask a i p<mask+1
 |0,i,p,h=>h
 |a+1,i,p,_=>UZ mask a _ _ (W3 _ (WB _))
theorem VM(k i p j:Nat)(f:i<2^k)(b:p<2^64)(d:j<2^k):∃r,r<13+2^k/\lX (2^k-1) r i p=j:=by
 have h:=UZ (2^k-1) 13 i p 'a';obtain⟨r,g,e⟩:=S_ k (lX (2^k-1) 13 i p) j;refine⟨13+r,by lia,?_⟩;rw[VF];have c:p/32^13=0:=Nat.div_eq_of_lt (WA b 'c');have a:lX (2^k-1) 13 i p=lX (2^k-1) 13 i p%2^k:=(Nat.mod_eq_of_lt 'a').symm;rw[c,a,VN,e,Nat.mod_eq_of_lt d]
theorem UY(mask i:Nat):SetTable.runEnd mask i-i<=9:=by unfold SetTable.runEnd;split<;>lia
def cK(t:av):Nat->SetTable.Probe->SetTable.Probe
 |0,p=>p
 |n+1,p=>cK t n (t.advance p)
theorem IS(t:av):∀(m:Nat)(p:SetTable.Probe),m<=p.more->cK t m p={p with j:=p.j+m,more:=p.more-m}
 |0,p,_=>by simp[cK]
 |m+1,p,h=>by
  have e:t.advance p={p with j:=p.j+1,more:=p.more-1}:=by
   unfold SetTable.advance;rw[Zr 'a']
  show cK t m (t.advance p)=_;rw[e,IS t m _ (by show m<=p.more-1;lia)];congr 1
  ·show p.j+1+m=p.j+(m+1);lia
  ·show p.more-1-m=p.more-(m+1);lia
theorem tM(t:av):∀(a b:Nat)(p:SetTable.Probe),cK t (a+b) p=cK t b (cK t a p)
 |0,b,p=>by simp[cK]
 |a+1,b,p=>by rw[Nat.succ_add];exact tM t a b _
structure Head(t:av)(i perturb:Nat)(d:Option Nat)(p:SetTable.Probe):Prop where
 e:p={j:=i,more:=SetTable.runEnd t.mask i-i,i:=i,perturb:=perturb,dummy:=d}
theorem q72{t:av}{i q:Nat}{d:Option Nat}{p:SetTable.Probe}(h:Head t i q d p):∃n,n<=10/\Head t (SetTable.leap t.mask i q).1 (SetTable.leap t.mask i q).2 d (cK t n p):=by
 have a:=UY t.mask i;refine⟨(SetTable.runEnd t.mask i-i)+1,by lia,⟨?_⟩⟩;rw[tM,IS t _ p (by rw[h.e];exact Zg _)];show t.advance _=_;rw[h.e];unfold SetTable.advance;rw[Zi (by show ¬(SetTable.runEnd t.mask i-i)-(SetTable.runEnd t.mask i-i)>0;lia)]
theorem VY{t:av}{d:Option Nat}:∀(r:Nat){i q:Nat}{p:SetTable.Probe},Head t i q d p->∃n,n<=10*r/\(cK t n p).j=lX t.mask r i q/\(cK t n p).dummy=d
 |0,i,q,p,h=>⟨0,Zg _,by show p.j=i;rw[h.e],by show p.dummy=d;rw[h.e]⟩
 |r+1,i,q,p,h=>by
  obtain⟨n,e,h1⟩:=q72 h;obtain⟨m,c,b,a⟩:=VY r h1;exact⟨n+m,by lia,by rw[tM];exact b,by rw[tM];exact a⟩
theorem HS(t:av):∀(n:Nat)(p:SetTable.Probe),(cK t n p).dummy=p.dummy
 |0,p=>rfl
 |n+1,p=>by
  show(cK t n (t.advance p)).dummy=_;rw[HS t n];unfold SetTable.advance;split<;>rfl
theorem VX(h:Int):SetTable.bits h<2^64:=by
 unfold SetTable.bits;have:=Xz h (show(0:Int)<2^64 by decide);lia
theorem meet{t:av}{k:Nat}(a:t.mask=2^k-1)(h:Int){j:Nat}(d:j<2^k):∃n,n<10*SetTable.turns t.mask/\(cK t n (t.probeStart h)).j=j:=by
 have c:0<2^k:=Wk k;have b:Head t (SetTable.bits h%(t.mask+1)) (SetTable.bits h) none (t.probeStart h):=⟨rfl⟩;obtain⟨r,g,e⟩:=VM k (SetTable.bits h%(t.mask+1)) (SetTable.bits h) j (by rw[a];have:=W3 (SetTable.bits h) c;rw[show 2^k-1+1=2^k by lia];exact this) (VX h) d;obtain⟨n,i,f,_⟩:=VY r b;refine⟨n,?_,by rw[f];rw[<- a]at e;exact e⟩;unfold SetTable.turns;lia
theorem MP(j:Nat):SetTable.has #[] j=false:=by
 unfold SetTable.has;simp
theorem Mn{t:av}(a:t.dummies=#[])(j:Nat):(t.slot j=.empty)\/∃i,t.slot j=.live i/\t.place[i]?=some j:=by
 unfold SetTable.slot;simp only;split
 ·rename_i h;exact .inr ⟨_,rfl,by simpa using h⟩
 ·rw[a,MP];exact .inl rfl
theorem q75{t:av}(a:t.dummies=#[]){j:Nat}(h:j∉t.place.toList):t.slot j=.empty:=by
 rcases Mn a j with e|⟨i,_,e⟩
 ·exact e
 ·refine absurd ?_ h;have:=Array.mem_of_getElem? e;simpa using this
theorem R6:∀(n:Nat)(l:List Nat),l.length<n->∃j,j<n/\j∉l
 |0,l,h=>absurd h (Yi _)
 |n+1,l,h=>by
  by_cases a:n∈l
  ·obtain⟨j,c,b⟩:=R6 n (l.erase n) (by rw[List.length_erase_of_mem a];have:=List.length_pos_of_mem a;lia);refine⟨j,by lia,λm=>b ?_⟩;exact(List.mem_erase_of_ne 'a').mpr m
  ·exact⟨n,Yw n,a⟩
structure cH(t:av)(n:Nat):Prop where
 pl:t.place.size=n
 du:t.dummies=#[]
 ma:∃k,t.mask=2^k-1/\1<=k
 le:n<=t.mask
theorem cH.fill{t:av}{n:Nat}(h:cH t n):t.fill=n:=by unfold SetTable.fill;rw[h.pl,h.du];rfl
theorem cH.way{t:av}{n:Nat}(h:cH t n):t.gaveWay=false:=by
 obtain⟨k,e,b⟩:=h.ma;unfold SetTable.gaveWay;rw[e];obtain⟨k,rfl⟩:∃m,k=m+1:=⟨k-1,by lia⟩;have:=Wk k;have a:(2^(k+1)-1)%2=1:=by rw[YZ];lia
 rw[a]
 rfl
theorem cH.meets{t:av}{n:Nat}(g:cH t n)(h:Int):∃m,m<10*SetTable.turns t.mask/\t.slot (cK t m (t.probeStart h)).j=.empty:=by
 obtain⟨k,e,_⟩:=g.ma;have f:=Wk k;obtain⟨j,c,d⟩:=R6 (2^k) t.place.toList (by simp only[Yg,g.pl];have:=g.le;lia);obtain⟨m,a,b⟩:=meet e h c;exact⟨m,a,by rw[b];exact q75 g.du d⟩
theorem VW{t:av}(d:t.dummies=#[])(a:Nat->Int)(h:Int):∀(f m:Nat)(p:SetTable.Probe),m<f->p.dummy=none->t.slot (cK t m p).j=.empty ->
  (∃j,SetTable.probe.go t a h f p=some (.empty j none)) \/
  (∃b j i,b<m/\SetTable.probe.go t a h f p=some (.candidate j i (cK t (b+1) p))/\t.slot j=.live i/\t.place[i]?=some j/\a i=h)
 |0,m,p,h1,_,_=>absurd h1 (Yi _)
 |f+1,m,p,h1,l,g=>by
  unfold SetTable.probe.go;rcases Mn d p.j with e|⟨i,e,q⟩
  ·rw[e];exact .inl ⟨p.j,by rw[l]⟩
  ·rw[e];cases m with
   |zero=>
    have k:t.slot p.j=.empty:=g;rw[e]at k;cases k
   |succ m=>
    by_cases c:a i==h
    ·refine .inr ⟨0,p.j,i,WB _,?_,e,q,by simpa using c⟩;simp only;rw[Zr c]
     rfl
    ·simp only;rw[Zi c];rcases VW d a h f m (t.advance p) 'a' (by rw[<- l];exact HS t 1 p) g with⟨j,ej⟩|⟨b,j,i',eU,ej,r⟩
     ·exact .inl ⟨j,ej⟩
     ·exact .inr ⟨b+1,j,i',by lia,ej,r⟩
theorem Ig{a:Type}(xs:Array a)(p:Nat)(x:a):(SetTable.insertAt xs p x).size=xs.size+1:=by
 unfold SetTable.insertAt;simp;lia
theorem qM5{a:Type}{xs:Array a}{p:Nat}{x y:a}(h:y∈SetTable.insertAt xs p x):y=x\/y∈xs:=by
 unfold SetTable.insertAt at h;rcases Array.mem_append.mp h with h|h
 ·rcases Array.mem_push.mp h with h|h
  ·obtain⟨i,b,e⟩:=WN.mp h;exact .inr (by rw[<- e];exact Ve _)
  ·exact .inl h
 ·obtain⟨i,b,e⟩:=WN.mp h;exact .inr (by rw[<- e];exact Ve _)
theorem cH.put{t:av}{n:Nat}(g:cH t n)(a:t.tooFull=false)(j:Nat):cH (t.put j).1 (n+1):=by
 have e:(t.put j).1={t with place:=SetTable.insertAt t.place (SetTable.below t.place j) j}:=by
  unfold SetTable.put;simp only;rw[g.du,MP];simp[g.du]
 rw[e];refine⟨by rw[Ig,g.pl],g.du,g.ma,?_⟩;show n+1<=t.mask;unfold SetTable.tooFull at a;rw[g.fill]at a;have:=of_decide_eq_false a;lia
theorem UX{mask:Nat}{owner:Array (Option Nat)}:∀(f r i p:Nat),r<f->(owner.getD (lX mask r i p) (some 0)).isNone=true ->
  ∃j,SetTable.layClean.free mask owner f i p=some j/\(owner.getD j (some 0)).isNone=true
 |0,r,i,p,h,_=>absurd h (Yi _)
 |f+1,r,i,p,h,a=>by
  unfold SetTable.layClean.free;cases e:(List.range (SetTable.runEnd mask i+1-i)).find? λk=>(owner.getD (i+k) (some 0)).isNone with
  |some k=>
   have:=List.find?_some e;exact⟨i+k,rfl,this⟩
  |none=>
   cases r with
   |zero=>
    have c:∀x∈List.range (SetTable.runEnd mask i+1-i),¬(owner.getD (i+x) (some 0)).isNone=true:=by simpa using e
    have b:0∈List.range (SetTable.runEnd mask i+1-i):=ZX.mpr (by unfold SetTable.runEnd;split<;>lia);exact absurd a (c 0 b)
   |succ r=>exact UX f r _ _ 'a' a
def cnt(owner:Array (Option Nat)):Nat:=(owner.toList.filter Option.isSome).length
theorem Tz:∀(l:List (Option Nat))(j k:Nat),l[j]?=some none->((l.set j (some k)).filter Option.isSome).length=(l.filter Option.isSome).length+1
 |[],j,k,h=>by simp at h
 |a::l,0,k,h=>by
  have:a=none:=by simpa using h
  subst this;simp
 |a::l,j+1,k,h=>by
  have b:=Tz l j k (by simpa using h);rw[List.set_cons_succ,List.filter_cons,List.filter_cons];split
  ·rw[ZD,ZD,b]
  ·exact b
theorem VU:∀(l:List (Option Nat)),(l.filter Option.isSome).length<l.length->∃j:Nat,l[j]?=some none
 |[],h=>by simp at h
 |none::l,_=>⟨0,rfl⟩
 |some a::l,h=>by
  obtain⟨j,b⟩:=VU l (by simpa using h);exact⟨j+1,by simpa using b⟩
structure Laid(mask:Nat)(owner:Array (Option Nat))(K:Nat):Prop where
 sz:owner.size=mask+1
 ct:cnt owner=K
 lt:∀v,some v∈owner.toList->v<K
theorem Laid.step{mask k K:Nat}{owner:Array (Option Nat)}(i:mask=2^k-1)(g:Laid mask owner K)(w:K<=mask)(h:Int):
  ∃j,SetTable.layClean.free mask owner (SetTable.turns mask) (SetTable.bits h%(mask+1)) (SetTable.bits h)=some j/\Laid mask (owner.setIfInBounds j (some K)) (K+1):=by
 have u:=Wk k;obtain⟨c,e⟩:=VU owner.toList (by
  have:=g.ct;unfold cnt at this;rw[this,Yg,g.sz];lia)
 have q:c<mask+1:=by
  have:=(cx e).1;rw[Yg,g.sz]at this;exact this
 have p:mask+1=2^k:=by lia
 obtain⟨r,s,f⟩:=VM k (SetTable.bits h%(mask+1)) (SetTable.bits h) c (by rw[<- p];exact W3 _ (WB _)) (VX h) 'a';rw[<- i]at f;have d:∀j,(owner.getD j (some 0)).isNone=true<->owner.toList[j]?=some none:=λj=>by
  rw[Xf];by_cases b:j<owner.size
  ·simp[Array.getD,b]
  ·simp[Array.getD,b]
 obtain⟨j,l,b⟩:=UX (mask:=mask) (owner:=owner) (SetTable.turns mask) r _ _ (by unfold SetTable.turns;lia) (by rw[f];exact(d c).mpr e);have m:=(d j).mp b;refine⟨j,l,by rw[Wg];exact g.sz,?_,λv a=>?_⟩
 ·unfold cnt;rw[W4,Tz _ _ _ m];have:=g.ct;unfold cnt at this;rw[this]
 ·rw[W4]at a;rcases List.mem_or_eq_of_mem_set a with a|a
  ·have:=g.lt v a;lia
  ·have:v=K:=by simpa using a
   lia
theorem Uk{mask k:Nat}(e:mask=2^k-1):∀(b:List Int)(a:Array (Option Nat))(K:Nat),Laid mask a K->K+b.length<=mask ->
  ∃f,(b.foldl (λ(c:Option (Array (Option Nat)×Nat)) (h:Int)=>do
   let (a,k) <- c
   let j <- SetTable.layClean.free mask a (SetTable.turns mask) (SetTable.bits h%(mask+1)) (SetTable.bits h)
   pure (a.setIfInBounds j (some k),k+1)) (some (a,K)))=some (f,K+b.length)/\Laid mask f (K+b.length)
 |[],a,K,g,_=>⟨a,rfl,g⟩
 |h::b,a,K,g,p=>by
  rw[ZD]at p;obtain⟨j,l,q⟩:=g.step e 'a' h;obtain⟨m,i,d⟩:=Uk e b _ (K+1) q 'a';refine⟨m,?_,by rw[ZD,show K+(b.length+1)=K+1+b.length by lia];exact d⟩;rw[Z9,ZD,show K+(b.length+1)=K+1+b.length by lia,<- i];congr 1;show(SetTable.layClean.free mask a (SetTable.turns mask) (SetTable.bits h%(mask+1)) (SetTable.bits h)).bind _=_;rw[l]
  rfl
theorem xx8{mask k:Nat}(b:mask=2^k-1)(hs:Array Int)(f:hs.size<=mask):∃a,SetTable.layClean mask hs=some a/\Laid mask a hs.size:=by
 have c:Laid mask (Array.replicate (mask+1) none) 0:=⟨by simp,by unfold cnt;simp,λv d=>by simp at d⟩;obtain⟨o,e,g⟩:=Uk b hs.toList _ 0 c (by simpa using f);refine⟨o,?_,by simpa using g⟩;unfold SetTable.layClean;rw[<- W5,e]
 rfl
theorem MO{b d:Type}{f g:b->Option d}:∀(l:List b),(∀x∈l,f x=g x)->l.filterMap f=l.filterMap g
 |[],_=>rfl
 |a::l,h=>by
  rw[ZY,ZY,h a Zw,MO l λx c=>h x (Zn _ c)]
theorem Uj:∀(l:List (Option Nat))(a:Nat),((List.range' a l.length).filterMap λj=>((l[j-a]?).getD none).map (λv=>(j,v))).length=(l.filter Option.isSome).length
 |[],a=>rfl
 |x::l,a=>by
  rw[ZD,List.range'_succ,ZY];have b:=Uj l (a+1);have e:(List.range' (a+1) l.length).filterMap (λj=>(((x::l)[j-a]?).getD none).map (λv=>(j,v)))=(List.range' (a+1) l.length).filterMap λj=>((l[j-(a+1)]?).getD none).map (λv=>(j,v)):=by
   refine MO _ λj c=>?_;have:=(List.mem_range'_1.mp c).1;obtain⟨d,rfl⟩:∃d,j=a+1+d:=⟨j-(a+1),by lia⟩;rw[show a+1+d-a=d+1 by lia,show a+1+d-(a+1)=d by lia,List.getElem?_cons_succ]
  rw[e,W2];cases x with
  |none=>simpa using b
  |some v=>simpa using b
theorem q78{mask k finger moves:Nat}{led plain:Bool}(h:mask=2^k-1)(h1:1<=k)(hs:Array Int)(i:hs.size<=mask):
  ∃t c,SetTable.laid mask finger moves led plain hs=some (t,c)/\cH t hs.size/\t.mask=mask/\t.led=led/\t.moves=moves/\c.size=hs.size/\∀v∈c,v<hs.size:=by
 obtain⟨b,e,g⟩:=xx8 h hs i;have m:∀a:Nat,(List.range (mask+1)).filterMap (λj=>(b.getD j none).map (λv=>(j,v)))=(List.range' 0 b.toList.length).filterMap λj=>((b.toList[j-0]?).getD none).map (λv=>(j,v)):=λ_=>by
  rw[Yg,g.sz,<- List.range_eq_range'];refine MO _ λj f=>?_;have d:=ZX.mp f;rw[Nat.sub_zero,Xf];simp[Array.getD,g.sz,d]
 have len:((List.range (mask+1)).filterMap (λj=>(b.getD j none).map (λv=>(j,v)))).length=hs.size:=by
  rw[m 0,Uj,<- g.ct]
  rfl
 refine⟨_,_,by unfold SetTable.laid;rw[e];rfl,⟨?_,rfl,⟨k,h,h1⟩,i⟩,rfl,rfl,rfl,?_,λv u=>?_⟩
 ·show((((List.range (mask+1)).filterMap (λj=>(b.getD j none).map (λv=>(j,v)))).map (·.1)).toArray).size=_;rw[Zx,Ze,len]
 ·show((((List.range (mask+1)).filterMap (λj=>(b.getD j none).map (λv=>(j,v)))).map (·.2)).toArray).size=_;rw[Zx,Ze,len]
 ·have s:v∈((List.range (mask+1)).filterMap (λj=>(b.getD j none).map (λv=>(j,v)))).map (·.2):=by simpa using u
  obtain⟨q,p,rfl⟩:=ZV.mp s;obtain⟨j,f,r⟩:=Wn.mp p;obtain⟨l,ev,rfl⟩:=Zp.mp r;refine g.lt l ?_;have d:=ZX.mp f;have:b[j]'(by rw[g.sz];exact d)=some l:=by simpa[Array.getD,g.sz,d]using ev
  rw[<- this];simp
theorem UW:∀(f k n:Nat),3<=k->n<2^(k+f)->∃a,SetTable.sizeAbove.go n f (2^k)=2^a/\3<=a/\n<2^a/\(2^k<=2*n+8->2^a<=2*n+8)
 |0,k,n,b,h=>⟨k,rfl,b,h,λz=>z⟩
 |f+1,k,n,b,h=>by
  unfold SetTable.sizeAbove.go;by_cases c:2^k<=n
  ·rw[Zr c,<- YZ];obtain⟨a,e,h1,h2,d⟩:=UW f (k+1) n 'a' (by rw[show k+1+f=k+(f+1) by lia];exact h);exact⟨a,e,h1,h2,λ_=>d (by rw[YZ];lia)⟩
  ·rw[Zi c];exact⟨k,rfl,b,by lia,λz=>z⟩
theorem LS{n:Nat}(h:n<2^60):∃k,SetTable.sizeAbove n=2^k/\3<=k/\n<2^k/\2^k<=2*n+8:=by
 obtain⟨k,e,h1,h2,a⟩:=UW 64 3 n 'c' (WA h 'c');exact⟨k,e,h1,h2,a (by show 8<=2*n+8;lia)⟩
theorem VL{t:av}{hs:Array Int}{wanted:Nat}(hw:wanted<2^60)(i:hs.size<wanted):
  ∃b a,t.relaid hs wanted=some (b,a)/\cH b hs.size/\wanted<=b.mask/\b.mask<=2*wanted+8/\b.led=t.led/\a.size=hs.size/\∀v∈a,v<hs.size:=by
 obtain⟨k,e,h1,h2,j⟩:=LS hw;obtain⟨b,a,d,g,c,f,_,h,ev⟩:=q78 (mask:=2^k-1) (k:=k) (finger:=t.finger) (moves:=t.movedTo (2^k-1)) (led:=t.led) (plain:=t.plain) rfl 'a' hs 'a';refine⟨b,a,?_,g,by rw[c];lia,by rw[c];lia,f,h,ev⟩;unfold SetTable.relaid;rw[e];exact d
theorem AQ{e:Type}{es:Array e}{b:Array Nat}(h:∀v∈b,v<es.size):(b.filterMap (es[·]?)).size=b.size:=by
 rw[<- Yg,Array.toList_filterMap,<- Yg (xs:=b)];have:∀l:List Nat,(∀v∈l,v<es.size)->(l.filterMap (es[·]?)).length=l.length:=λl=>by
  induction l with
  |nil=>intro _;rfl
  |cons a l f=>
   intro d;rw[ZY];have g:=d a Zw;rw[show es[a]?=some es[a] by simp[g]];simp[f λv c=>d v (Zn _ c)]
 exact this _ λv c=>h v (by simpa using c)
theorem xk6{b:Type}{es:Array b}{a:Array Nat}{y:b}(h:y∈a.filterMap (es[·]?)):y∈es:=by
 obtain⟨v,_,e⟩:=Array.mem_filterMap.mp h;exact Array.mem_of_getElem? e
end cY
namespace cY
open PySem PySem.Spec PyProof.Rows
section
variable{K:Type}[DecidableEq K]{knd:KeyKind prog w K}{A:au}{E:aa->af->Prop}{s:af}
theorem qB3(n:Nat){v:aa}(h:carriedByValue v=true):ofAClassStatement n v=pure false:=by
 cases v with
 |ref a=>simp[carriedByValue]at h
 |_=>first|rfl|(unfold ofAClassStatement;rfl)|(cases n<;>rfl)
theorem gK{M:Model}{a:ae}{o:aw}{items:Array aa}{n:Nat}{Q:Option (Array aa)->af->Prop}(c:s.heap.get? a=some o)(b:o.data=.seq items n)(h:Q (some items) s):
  ag M A (seqItems? (.ref a)) Q E s:=Xb c b h
theorem TC{j:List K}{a:ae}{Q:Bool->af->Prop}(f:IsTupleKey knd s.heap j a)(h:Q false s):ag (aj prog w) A (ofAClassStatement 8 (.ref a)) Q E s:=by
 have p:=f.typeIs;obtain⟨o,e,n,m,_,i,l⟩:=f;unfold ofAClassStatement;refine Za (Wz p ?_);show ag _ _ ((if("tuple"=="tuple")=true then pure true else isSubtype (.type "tuple") (.type "tuple")) >>= _) _ _ s;rw[Zr 'c'];refine Za (Zc ?_);simp only[Wh,Zv,Z0];refine Za (gK m i ?_);dsimp only;refine Za ?_;rw[<- Array.forIn_toList];refine wpAny_forIn_list _ (λb r c=>r.1=none/\c=s/\∀v∈b,carriedByValue v=true) _ ?_ ?_ _ _ ⟨rfl,rfl,l.byValue⟩
 ·rintro v b r c ⟨d,rfl,g⟩;rw[qB3 _ (g v Zw)];refine Za (Zc ?_);simp only[Zv,Z0];exact Zc ⟨rfl,rfl,λu k=>g u (Zn _ k)⟩
 ·rintro⟨x,q⟩ c ⟨d,rfl,_⟩;simp only at d;subst d;exact Zc h
theorem R5{l:List K}{a:ae}{Q:Bool->af->Prop}(i:IsTupleKey knd s.heap l a)(h:Q false s){c:List aa}(p:∀y∈c,∃b e,y=.ref b/\IsTupleKey knd s.heap e b):
  ag (aj prog w) A (searchCouldBeSeen (.ref a) c) Q E s:=by
 unfold searchCouldBeSeen;refine Za ?_;refine wpAny_forIn_list _ (λd r f=>r.1=none/\f=s/\∀y∈d,∃b e,y=.ref b/\IsTupleKey knd s.heap e b) _ ?_ ?_ _ _ ⟨rfl,rfl,p⟩
 ·rintro y d r f ⟨g,rfl,k⟩;obtain⟨b,e,rfl,hb⟩:=k y Zw;have j:∀y∈d,∃b e,y=.ref b/\IsTupleKey knd f.heap e b:=λu m=>k u (Zn _ m);dsimp only;split
  ·exact Zc ⟨rfl,rfl,j⟩
  ·refine Za (wpAny_eqIsQuiet_tuple i ?_);simp only[Wh,Zv,Z0];refine Za (wpAny_eqIsQuiet_tuple hb ?_);simp only[Wh,Zv,Z0];refine Za (TC i ?_);simp only[Zv,Z0];refine Za (TC hb ?_);simp only[Zv,Z0];exact Zc ⟨rfl,rfl,j⟩
 ·rintro⟨v,q⟩ f ⟨g,rfl,_⟩;simp only at g;subst g;exact Zc h
def Hb(v:aa):Prop:=∃b,∀n,hashByValue n v=pure b
theorem Hb.int(k:Int)(t:Tok):Hb (.int k t):=⟨true,λn=>by cases n<;>rfl⟩
theorem Hb.str(x:aq)(t:Tok):Hb (.str x t):=⟨false,λn=>by cases n<;>rfl⟩
theorem Tx{a:ae}{o:aw}{items:Array aa}{n:Nat}{Q:Bool->af->Prop}(f:s.heap.get? a=some o)(hc:o.cls=.type "tuple")(i:o.data=.seq items n)(k:∀v∈items.toList,Hb v)(h:∀b,Q b s):
  ag (aj prog w) A (hashByValue 8 (.ref a)) Q E s:=by
 have l:s.TypeIs (.ref a) "tuple":=⟨o,f,hc⟩;unfold hashByValue;refine Za (wpAny_specialOf l F.slot_tuple_hash.lookup ?_);dsimp only;refine Za (gK f i ?_);dsimp only[Option.getD];refine Za ?_;rw[<- Array.forIn_toList];refine wpAny_forIn_list _ (λc r d=>r.1=none/\d=s/\∀v∈c,Hb v) _ ?_ ?_ _ _ ⟨rfl,rfl,k⟩
 ·rintro v c r d ⟨e,rfl,g⟩;obtain⟨b,hb⟩:=g v Zw;rw[hb];refine Za (Zc ?_);cases b with
  |true=>
   simp only[Wh,Zv,Z0];exact Zc ⟨rfl,rfl,λu j=>g u (Zn _ j)⟩
  |false=>
   simp only[WC,Yt];exact Zc (Zc (h false))
 ·rintro⟨p,m⟩ d ⟨e,rfl,_⟩;simp only at e;subst e;exact Zc (h true)
theorem cH.fits{t:av}{n:Nat}(g:cH t n):t.fits n=true:=by
 unfold SetTable.fits;rw[g.pl,g.fill];simp[g.le]
theorem UU{t:av}{f:Nat->Int}{h:Int}{p:SetTable.Probe}{b:Option SetTable.Met}{m:Nat}(l:t.probe f h p=b)(d:t.dummies=#[])(c:m<10*SetTable.turns t.mask)(k:p.dummy=none)(g:t.slot (cK t m p).j=.empty):
  (∃j,b=some (.empty j none))\/(∃a j i,a<m/\b=some (.candidate j i (cK t (a+1) p))/\t.slot j=.live i/\t.place[i]?=some j):=by
 subst l;rcases VW d f h (10*SetTable.turns t.mask) m p c k g with⟨j,e⟩|⟨a,j,i,h1,e,h2,q,_⟩
 ·exact .inl ⟨j,e⟩
 ·exact .inr ⟨a,j,i,h1,e,h2,q⟩
theorem xH3{a b:ae}{o:aw}{es:Array (Int×aa)}{ep:Nat}{t:av}{L:List K}{h:Int}{Q:SetFound->af->Prop}(J:A.units<cLine)
  (B:s.heap.get? a=some o) (v:o.data=.set es ep t) (g:cH t es.size) (x:IsTupleKey knd s.heap L b) (N:∀e∈es,∃r k,e.2=.ref r/\IsTupleKey knd s.heap k r/\k≠L) (q:∀j,Q (.free j false) s):
  ∀(m c:Nat)(f:Option SetTable.Probe),m<c->m<10*SetTable.turns t.mask->(f.getD (t.probeStart h)).dummy=none->t.slot (cK t m (f.getD (t.probeStart h))).j=.empty ->
   ag (aj prog w) A (setSearchFrom a (.ref b) h true c f) Q E s:=by
 intro m
 induction m using Nat.strongRecOn with
 |ind m Y=>
  intro c f D H G F;cases c with
  |zero=>exact absurd D (Yi _)
  |succ c=>
   unfold setSearchFrom;refine Za (Z4 B v g.fits ?_);dsimp only;rw[g.way];simp only[Zv,Z0];split
   ·rename_i met l;rcases UU l g.du H G F with⟨j,C⟩|⟨d,j,i,eU,C,I,X⟩
    ·cases C;dsimp only;exact Zc (q j)
    ·cases C;dsimp only;have R:i<es.size:=by
      have:=(ZC.mp X).1;rw[g.pl]at this;exact this
     obtain⟨r,k,T,P,S⟩:=N es[i] (Ve R);have u:es[i]?=some (es[i].1,.ref r):=by
      rw[<- T];simp[R]
     have M:t.sameMemory t.moves t.mask=some true:=by
      unfold SetTable.sameMemory;rw[Zr 'b']
     have O:∀p,m<p+1->ag (aj prog w) A (setSearchFrom a (.ref b) h true p (some (cK t (d+1) (f.getD (t.probeStart h))))) Q E s:=λp U=>
      Y (m-(d+1)) 'a' p _ 'a' 'a' (by show(cK t (d+1) _).dummy=none;rw[HS];exact G) (by
       show t.slot (cK t (m-(d+1)) (cK t (d+1) _)).j=.empty;rw[<- tM,show d+1+(m-(d+1))=m by lia];exact F)
     have seen:∀y∈(es.filter (·.1==h)).toList.map (·.2),∃b k,y=.ref b/\IsTupleKey knd s.heap k b:=λy hy=>by
      obtain⟨e,V,rfl⟩:=ZV.mp hy;have:e∈es:=by
       have:=(Array.mem_filter.mp (show e∈es.filter (·.1==h) by simpa using V)).1;exact this
      obtain⟨JP,zi,Z,W,_⟩:=N e this;exact⟨JP,zi,Z,W⟩
     cases hl:t.led with
     |false=>
      simp only[WC,Yt];refine Za (R5 x ?_ seen);simp only[Zv,Z0];rw[u];dsimp only;refine Za (ZK (Wq J P x ?_));rw[Zy S];refine Za (Z4 B v g.fits ?_);dsimp only;simp only[X9,Zv,Z0];rw[M];dsimp only;simp only[Yt];rw[I];dsimp only;rw[u];dsimp only;refine Za (XN ?_);refine Za (Zc ?_);simp only[Yt];exact O c D
     |true=>
      simp only[Wh,Zv,Z0];rw[u];dsimp only;refine Za (ZK (Wq J P x ?_));rw[Zy S];refine Za (Z4 B v g.fits ?_);dsimp only;simp only[X9,Zv,Z0];rw[M];dsimp only;simp only[Yt];rw[I];dsimp only;rw[u];dsimp only;refine Za (XN ?_);refine Za (Zc ?_);simp only[Yt];exact O c D
   ·rename_i l;exact Or.elim (UU rfl g.du H G F) (λ⟨j,e⟩=>(l _ e).elim) (λ⟨_,_,_,_,e,_⟩=>(l _ e).elim)
structure ig(knd:KeyKind prog w K)(h:ao)(a:ae)(Ks:List (List K))(n:Nat):Prop where
 ex:∃o es ep t,h.get? a=some o/\o.ExactSet/\o.data=.set es ep t/\cH t es.size/\t.tooFull=false/\t.mask<=8*n+8/\es.size=n/\∀e∈es,∃b ks,e.2=.ref b/\ks∈Ks/\IsTupleKey knd h ks b
theorem CU{h:ao}{a b:ae}{o:aw}{e:List K}{es:Array (Int×aa)}{ep:Nat}{t:av}(x:IsTupleKey knd h e b)(i:h.get? a=some o)(f:o.data=.set es ep t):b≠a:=by
 rintro rfl;obtain⟨j,c,n,g,_,d,_⟩:=x;obtain rfl:j=o:=Zu (g.symm.trans i);rw[f]at d;exact nomatch d
theorem AO{h h':ao}{a b:ae}{d:List K}(x:IsTupleKey knd h d b)(k:b≠a)(hs:Heap.SameBut a h h'):IsTupleKey knd h' d b:=by
 obtain⟨i,c,n,e,j,g,f⟩:=x;exact⟨i,c,n,(hs.2 b k).trans e,j,g,f⟩
theorem IQ{h:ao}{a:ae}{o:aw}{es es':Array (Int×aa)}{ep:Nat}{t t':av}(c:h.get? a=some o)(b:o.data=.set es ep t):
  (h.update a (Obj.putSet es' t')).get? a=some {o with data:=.set es' (ep+1) t'}:=by
 have:=YG (Obj.putSet es' t') c (by rw[putSet_of es' t' b];rfl);rw[putSet_of es' t' b]at this;exact this
theorem xx9{a b:ae}{I:List K}{O:List (List K)}{n:Nat}{h:Int}{Q:Bool->af->Prop}(hu:A.units<cLine)(S:ig knd s.heap a O n)(L:IsTupleKey knd s.heap I b)(Qi:∀o i m,s.heap.get? b=some o->o.data=.seq i m->∀v∈i.toList,Hb v)
  (hn:I∉O) (hsz:n<1200) (q:∀U,Heap.SameBut a s.heap U->ig knd U a (I::O) (n+1)->Q true {s with heap:=U}):
  ag (aj prog w) A (setAddHashed a (.ref b) h) Q E s:=by
 obtain⟨o,d,ep,t,C,kE,B,g,hf,wA,rfl,jY⟩:=S.ex;unfold setAddHashed setAddHashedIn;refine ZK (Za (Z4 C B g.fits ?_));dsimp only;have P1:byScan (.ref b) d=false:=rfl;rw[P1];simp only[Zv,Z0];obtain⟨m,Z,rl⟩:=g.meets h;have wS:m<100000:=by
  unfold SetTable.turns at Z;lia
 refine Za (xH3 hu C B g L (λe D=>?_) (λj=>?_) m 100000 none wS Z rfl rl)
 ·obtain⟨G,H,X,R,N⟩:=jY e D;exact⟨G,H,X,N,λz=>hn (by rw[<- z];exact R)⟩
 dsimp only;refine Za (Z4 C B g.fits ?_);dsimp only;have y:=g.put hf j;generalize hp:t.put j=tp at y;obtain⟨J,p⟩:=tp;dsimp only at y ⊢;have T:J.mask=t.mask:=by
  have:(t.put j).1.mask=t.mask:=rfl;rw[hp]at this;exact this
 have Jw:b≠a:=CU L C B;have qX:∀{h1:ao},Heap.SameBut a s.heap h1->∀e∈SetTable.insertAt d p (h,Value.ref b),∃G H,e.2=.ref G/\H∈I::O/\IsTupleKey knd h1 H G:=λ{h1} hs e D=>by
  rcases qM5 D with rfl|D
  ·exact⟨b,I,rfl,Zw,AO L Jw hs⟩
  ·obtain⟨G,H,X,R,N⟩:=jY e D;exact⟨G,H,X,Zn _ R,AO N (CU N C B) hs⟩
 have u:(SetTable.insertAt d p (h,Value.ref b)).size=d.size+1:=Ig _ _ _;have x:d.size+1<=sizeLine:=by rw[YV];lia
 have l:∀r:av,cH r (d.size+1)->r.mask=t.mask->ag (aj prog w) A (do
   storeSet a (SetTable.insertAt d p (h,Value.ref b)) r
   if(!false&&r.tooFull)=true then do
     setRelay a (SetTable.grown (d.size+1))
     pure true
    else pure true) Q E s:=λr g2 wR=>by
  refine Za (WD C B ?_ (by rw[u];exact x));have P:=IQ (es':=SetTable.insertAt d p (h,Value.ref b)) (t':=r) C B;have Y:=Yh s.heap a (Obj.putSet (SetTable.insertAt d p (h,Value.ref b)) r);cases ht:r.tooFull with
  |false=>
   simp only[X9,Zv,Z0];refine Zc (q _ Y ⟨_,_,_,r,P,kE,rfl,by rw[u];exact g2,ht,by lia,u,qX Y⟩)
  |true=>
   simp only[WC,Vk,Yt];refine Za ?_;unfold setRelay;refine Za (Z4 P rfl (by rw[u];exact g2.fits) ?_);dsimp only;have F:SetTable.grown (d.size+1)=(d.size+1)*4:=by
    unfold SetTable.grown;rw[Zi 'a']
   obtain⟨k,ek,_,_,wZ⟩:=LS (n:=SetTable.grown (d.size+1)) (by rw[F];lia);rw[Zi (by rw[ek,YV];rw[F]at wZ;lia)];obtain⟨V,f,er,W,Ov,Ou,_,eo,ev⟩:=VL (t:=r) (hs:=(SetTable.insertAt d p (h,Value.ref b)).map (·.1)) (wanted:=SetTable.grown (d.size+1)) (by rw[F];lia) (by rw[Yr,u,F];lia);rw[Yr]at W eo ev;rw[er];have M:(f.filterMap ((SetTable.insertAt d p (h,Value.ref b))[·]?)).size=d.size+1:=by rw[AQ ev,eo,u]
   refine Za ?_;show ag _ _ (if((f.filterMap ((SetTable.insertAt d p (h,Value.ref b))[·]?)).size != (SetTable.insertAt d p (h,Value.ref b)).size)=true then _ else _) _ _ _;rw[Zi (by rw[M,u];simp)];refine Zc ?_;dsimp only;refine WD P rfl ?_ (by rw[M];exact x);have vM:=IQ (es':=f.filterMap ((SetTable.insertAt d p (h,Value.ref b))[·]?)) (t':=V) P rfl;have vG:=Y.trans (Yh _ a (Obj.putSet (f.filterMap ((SetTable.insertAt d p (h,Value.ref b))[·]?)) V));refine Zc (q _ vG ⟨_,_,_,V,vM,kE,rfl,by rw[M,<- u];exact W,?_,?_,M,λe D=>qX vG e (xk6 D)⟩)
   ·unfold SetTable.tooFull;rw[W.fill,u];rw[F]at Ov;exact Zy 'a'
   ·rw[F]at Ou;lia
 cases jD:J.plain with
 |false=>
  simp only[Zv,Z0];refine Za (Zc ?_);simp only[Yt];exact l J y T
 |true=>
  simp only[Yt];obtain⟨ob,i,nn,k9,vE,wD,_⟩:=id L;refine Za (Tx k9 vE wD (Qi _ _ _ k9 wD) λc=>?_);cases c with
  |true=>
   simp only[Yt];exact l J y T
  |false=>
   simp only[Zv,Z0];exact l {J with plain:=false} ⟨y.pl,y.du,y.ma,y.le⟩ T
end
section
variable{K:Type}[DecidableEq K]{knd:KeyKind prog w K}
def gu(knd:KeyKind prog w K)(h:ao)(c:List K)(b:ae):Prop:=∃o a n,h.get? b=some o/\o.cls=.type "tuple" /\ o.data=.seq a n/\ItemsAre knd c a.toList/\∀v∈a.toList,Hb v
theorem gu.key{h:ao}{a:List K}{b:ae}(x:gu knd h a b):IsTupleKey knd h a b:=let ⟨o,items,n,h1,h2,h3,h4,_⟩:=x;⟨o,items,n,h1,h2,h3,h4⟩
theorem gu.hb{h:ao}{d:List K}{b:ae}(x:gu knd h d b):∀o a m,h.get? b=some o->o.data=.seq a m->∀v∈a.toList,Hb v:=λo a m f e=>by
 obtain⟨i,k,j,h1,_,c,_,g⟩:=x;rw[f]at h1;cases h1;rw[e]at c;cases c;exact g
theorem gu.at{h h':ao}{a:List K}{b:ae}(x:gu knd h a b)(k:∀o,h.get? b=some o->h'.get? b=some o):gu knd h' a b:=let ⟨o,items,n,h1,r⟩:=x;⟨o,items,n,k o h1,r⟩
theorem ig.at{h h':ao}{a:ae}{j:List (List K)}{n:Nat}(S:ig knd h a j n)(k:∀b o,h.get? b=some o->h'.get? b=some o\/b≠a/\¬∃d,IsTupleKey knd h d b):ig knd h' a j n:=by
 obtain⟨o,D,E,t,u,s,l,g,x,B,v,A⟩:=S.ex;refine⟨o,D,E,t,?_,s,l,g,x,B,v,λe y=>?_⟩
 ·rcases k a o u with z|z
  ·exact z
  ·exact absurd rfl z.1
 ·obtain⟨b,d,C,q,i⟩:=A e y;refine⟨b,d,C,q,?_⟩;obtain⟨f,c,p,m,r⟩:=id i;rcases k b f m with z|z
  ·exact⟨f,c,p,z,r⟩
  ·exact absurd ⟨d,i⟩ z.2
variable{R:Result->af->Prop}{I:ae}{fp wr:List ae}{G:Array GenState->Array GenState->Prop}{n:Nat}{P:Nat->aa->Prop}{St:Nat->af->Prop}
def Dr(knd:KeyKind prog w K)(S:ae)(wr:List ae)(P:Nat->aa->Prop)(val:Nat->List K)(h:ao):Prop:=∀i v,P i v->∃b,v=.ref b/\b≠S/\b∉wr/\gu knd h (val i) b
def S9(knd:KeyKind prog w K)(wr:List ae)(h:ao):Prop:=∀b∈wr,¬∃a,IsTupleKey knd h a b
theorem q80(W:WalksS prog w A.in1 I fp wr G n P St)(S:ae)(M:S∉fp)(val:Nat->List K)(r:∀i j,i<j->j<n->val i≠val j)(hn:n<=1200)(N:A.in1.units<cLine)
  (V:∀i s,St i s->S9 knd wr s.heap):
  ∀(k i:Nat)(s:af),n-i=k->i<=n->St i s->Dr knd S wr P val s.heap->(∃d,ig knd s.heap S d i/\∀D∈d,∃j,j<i/\D=val j) ->
   (∀a,Moved (S::wr) G s a->(∃d,ig knd a.heap S d n)->R (.ok (.ret .none)) a) ->
   codeAny (aj prog w) A (.builtin "set.update.loop" ⟨[.ref S,.ref I],[]⟩) R s:=by
 have U:S∉wr:=λz=>M (W.sub _ z);have Q:∀b∈wr,b∈S::wr:=λb hb=>Zn _ hb;have f:∀{i:Nat}{s a:af}{d:List (List K)}{m:Nat},St i s->Moved wr G s a->ig knd s.heap S d m->ig knd a.heap S d m:=λ{i s a d m} h g l=>l.at λb o e=>by
  by_cases hb:b∈wr
  ·exact .inr ⟨λz=>U (by rw[<- z];exact hb),V i s h b hb⟩
  ·exact .inl (g.heap b o hb e)
 intro k
 induction k with
 |zero=>
  intro i s T hi h x J C;have jO:i=n:=by lia
  subst jO;obtain⟨d,l,_⟩:=J;refine Xh YE ?_;rw[Wa ZZ _];refine Za (W.done s _ _ h λa g=>?_);exact Zc (C a (g.mono Q) ⟨d,f h g l⟩)
 |succ k ih=>
  intro i s T hi h x J C;obtain⟨d,l,q⟩:=J;have L:i<n:=by lia
  refine Xh YE ?_;rw[Wa ZZ _];refine Za (W.item i s _ _ L h λv a hP iL g=>?_);obtain⟨b,rfl,hbS,yW,hb⟩:=x i v hP;have y:gu knd a.heap (val i) b:=hb.at λo e=>g.heap b o yW e;have X:ig knd a.heap S d i:=f h g l;refine Za (ZK ?_);unfold setAdd;refine ZK ?_;refine Za (wpAny_pyHash_tuple N y.key ?_);refine xx9 (s:={a with toks:=a.toks+((val i).length+1)}) N X y.key y.hb (λz=>?_) 'a' λZ B S2=>?_
  ·obtain⟨j,O,e⟩:=q _ z;exact r j i O L e.symm
  ·have p:Dr knd S wr P val Z:=λj u Fg=>by
    obtain⟨c,rfl,h1,h2,Y⟩:=x j u Fg;exact⟨c,rfl,h1,h2,(Y.at λo e=>g.heap c o h2 e).at λo e=>(B.2 c h1).trans e⟩
   refine Zc ⟨plainId_quiet ZZ _,ih (i+1) _ 'a' L (W.frame _ a _ _ iL (YQ _ _) λc H o e=>?_) p ⟨val i::d,S2,λD E=>?_⟩ λtD qW F=>?_⟩
   ·rw[B.2 c (λz:c=S=>M (by rw[<- z];exact H))];exact e
   ·rcases ZB.mp E with rfl|E
    ·exact⟨i,Yw i,rfl⟩
    ·obtain⟨j,O,e⟩:=q D E;exact⟨j,by lia,e⟩
   ·refine C tD (Moved.trans W.gtrans ((g.mono Q).then_heap (YQ _ _) λc o H e=>?_) qW) F;rw[B.2 c (λz:c=S=>H (by rw[z];exact Zw))];exact e
end
end cY
namespace cY
open PySem PySem.Spec
section
variable{K:Type}[DecidableEq K]{knd:KeyKind prog w K}{A:au}{E:aa->af->Prop}{s:af}
abbrev dC(led:Bool):aw:={cls:=.type "set",dict:=none,data:=.set #[] 0 (.fresh 0 0 led)}
theorem q05{h:ao}{a:ae}{led:Bool}(e:h.get? a=some (dC led)):ig knd h a [] 0:=
 ⟨_,#[],0,.fresh 0 0 led,e,⟨rfl,rfl,rfl⟩,rfl,⟨rfl,rfl,⟨3,rfl,by decide⟩,ZU _⟩,by rfl,(by show 7<=8*0+8;decide),rfl,λe b=>by simp at b⟩
theorem iX{l:ae}{items:Array aa}{val:Nat->List K}{Q:aa->af->Prop}(hh:A.handled=none)(hu:A.units+8<cLine)(hl:s.heap.IsTuple l items)
  (hi:∀(i:Nat)(v:aa),items[i]?=some v->∃b,v=.ref b/\gu knd s.heap (val i) b) (p:∀i j,i<j->j<items.size->val i≠val j) (hb:items.size<=1200)
  (h:∀(d:ao)(x:Nat),(∃B,ig knd d s.heap.objs.size B items.size)->(∀b o,b<s.heap.objs.size->s.heap.get? b=some o->d.get? b=some o)->Q (.ref s.heap.objs.size) {s with heap:=d,toks:=x}):
  ag (aj prog w) A (call (.type "set") [.ref l]) Q E s:=by
 obtain⟨c,tl,O8⟩:=F.called_set.mro;have D9:=F.called_set.made;have Lk:=F.called_set.sub;refine Vo (codeAny_of_tree ?_);show ag _ _ (callAny (.type "set") _) _ _ _;refine Zc ⟨W6 _ (by decide +kernel),Xh F.entry_type_call ?_⟩;rw[Around.under_plain (weight_type_call_type "set" [.ref l] []) rfl];have f1:=F.called_set.notType;have f2:=F.called_set.canCreate;have f3:=F.typeCall_set_1 (.ref l)
 repeat (any_goals first|assumption|wp_step)
 refine Y7 (code_set_new_1 (.ref l) (E:=E) (Q₁:=λm S=>∃a:Bool,m=.ref s.heap.objs.size/\S={s with heap:=s.heap.push (dC a)}) λa=>⟨a,rfl,rfl⟩) λr S D=>?_;cases r with
 |error e=>exact D
 |ok fl=>
  cases fl with
  |ret m=>
   obtain⟨a,rfl,rfl⟩:=D;have L:(s.heap.push (dC a)).get? s.heap.objs.size=some (dC a):=Zh _ rfl;have hT:Shared.TypeIs {s with heap:=s.heap.push (dC a)} (.ref s.heap.objs.size) "set":=⟨_,L,rfl⟩;have i1:=F.called_set.init.lookup;have i2:=F.called_set.init.bind (.ref s.heap.objs.size)
   repeat (any_goals first|assumption|wp_step)
   refine Y7 (Wb (R:=wants (λr P=>r=.none/\∃d x,P={s with heap:=d,toks:=x}/\(∃B,ig knd d s.heap.objs.size B items.size) /\
     (∀b o,b<s.heap.objs.size->s.heap.get? b=some o->d.get? b=some o)) E) F.called_set.init.plain F.entry_set_init (check_set_init_1 hT ?_)) λxY P C=>?_
   ·obtain⟨ol,M,G,J,O⟩:=id hl;obtain⟨Nr,qI,DC,X⟩:=ol;simp only at G O;subst G;subst O;have zw:(s.heap.push (dC a)).get? l=some {cls:=.type "tuple",dict:=qI,data:=.seq items J,slots:=X}:=Zb _ M;have Ca:=F.sub_tuple_set;have l7:=F.sub_tuple_frozenset;have ned:(Value.type "tuple"== Value.type "dict")=false:=by decide
    have U:(s.heap.push (dC a)).IsTuple l items:=⟨_,zw,rfl,J,rfl⟩;unfold Builtin.«set.__init__» noKeywords Builtin.Frozenset.updateFrom;generalize Z:pyIter=PI
    wp_walk
    subst Z;refine YM U ?_;refine Za (wpAny_runValue ?_);have T:l<s.heap.objs.size:=Zl M;have f:(s.heap.push (dC a)).objs.size=s.heap.objs.size+1:=Yq _ _;have zD:l≠(s.heap.push (dC a)).objs.size:=by rw[f];exact Zz (Yy T)
    have y8:s.heap.objs.size∉[(s.heap.push (dC a)).objs.size,l]:=by
     rw[f];simp only[ZB,Xv,Vv,Vy];exact⟨Zz (Yw _),Xi T⟩
    refine q80 (knd:=knd) ((Walks.tuple (by simp[hh]) _ l zD items).toS) s.heap.objs.size y8 val p hb (by show A.units+1+1+1<cLine;lia) (λi H st b yW=>?_) (items.size-0) 0 _ 'a' (ZU _)
     ⟨⟨_,Zh _ rfl,rfl,rfl⟩,U.push _⟩ (λi v hv=>?_) ⟨[],q05 (Zb _ L),λks wB=>nomatch wB⟩ λH y g=>?_
    ·rintro⟨ks,V,I,n',q,u,e3,_⟩;have:b=(s.heap.push (dC a)).objs.size:=by simpa using yW
     subst this;obtain⟨oi,Y,x2,x3⟩:=st.1;rw[Y]at q;cases q;rw[x2]at u;injection u with u
     exact absurd u 'c'
    ·obtain⟨b,rfl,N⟩:=hi i v hv;have k:b<s.heap.objs.size:=by obtain⟨V,_,_,q,_⟩:=N;exact Zl q
     refine⟨b,rfl,Zz k,(by rw[f];simp only[ZB,Xv,Vv];exact Zz (Yy k)),N.at λo e=>Zb _ (Zb _ e)⟩
    ·obtain⟨d,g',d',K8,ji⟩:=H;have eg:g'=s.gens:=y.gens;have ed:d'=s.drawn:=y.drawn;have W:ji=s.os:=y.os;subst eg;subst ed;subst W;show ag _ _ _ _ _ _;refine Zc ?_;show ag _ _ (ret Value.none) _ _ _;refine Zc ⟨rfl,d,K8,rfl,g,λb o k e=>?_⟩;exact y.heap b o (by rw[f];simp only[ZB,Xv,Vv,Vy];exact⟨Zz k,Zz (Yy k)⟩) (Zb _ (Zb _ e))
   ·cases xY with
    |error e=>exact C
    |ok rP=>
     cases rP with
     |ret r=>
      obtain⟨rfl,d,x,rfl,g,kp⟩:=C
      repeat (any_goals first|assumption|wp_step)
      exact h _ _ g kp
     |_=>exact C.elim
  |_=>exact D.elim
end
end cY
namespace L2
open PySem PySem.Spec PyProof.Rows PySem.W
def xN8(h base:ao)(e:ae)(cls d:aa):Prop:=∃b a T oT c,h.get? e=some b/\b.cls=cls/\b.data=.fields a/\a[1]?=some (.ref T)/\a[2]?=some .none/\base.get? T=none/\T≠e/\h.get? T=some oT/\oT.data=.fields c/\c[3]?=some d
structure Over(base:ao)(l:List Env)(e:ae)(cls fl:aa)(h:ao):Prop where
 stays:base.StaysIn h
 new:base.get? e=none
 frames:h.FunFrames base l
 qJ:xN8 h base e cls fl
section
variable{M:Model}{A:au}{E:aa->af->Prop}{s:af}{base:ao}{env:Env}{outer:List Env}{L e:ae}{oe:aw}{vs:Array aa}{head:aa}{uj:Bool}
theorem UT{Q:Unit->af->Prop}(hfr:A.frames=some (env::outer))(l:s.heap.FunFrames base (env::outer))(C:env.frame=some L)(k:s.heap.get? e=some oe)(B:base.StaysIn s.heap)(ne:base.get? e=none)
  (c:oe.data=.fields vs) (h2:vs[2]?=some .none) (D:∀m,Over base (env::outer) e oe.cls (rawInt L) m->s.heap.UpToSlots m->Q () {s with heap:=m}):
  ag M A (do let a <- frameOf env;let h <- entryPlaceOf L uj;let b <- EntryCells.newEntry head a .none (rawInt L) .none h;setField (.ref e) 1 b) Q E s:=by
 have w:1<vs.size:=WA 'c' (ZC.mp h2).1;have F:e∉(env::outer).filterMap (·.frame):=λz=>by
  obtain⟨_,o,g,G⟩:=l.mem z;rw[k]at g;cases g;exact G vs c
 refine Za (wpAny_frameOf_fun hfr l C λf j=>?_);refine Za (wpAny_entryPlaceOf λh y=>?_);unfold EntryCells.newEntry newFields;refine Za (ZO ?_ (y.sizeOk5 _ _ _ _ _));dsimp only;have x:f.get? e=some oe:=(j.2.1 e F).trans k;have k1:base.StaysIn f:=λb o q=>(j.2.1 b (λz=>by rw[(l.mem z).1]at q;cases q)).trans (B b o q);have i:(([head,.ref L,.none,rawInt L,.none]++(if h.isEmpty then List.replicate 6 Value.none else h)).toArray:Array aa)[3]?=some (rawInt L):=by
  simp
 generalize ([head,.ref L,.none,rawInt L,.none]++(if h.isEmpty then List.replicate 6 Value.none else h)).toArray=v at i;have p:(f.push {cls:=.type "traceback",dict:=none,data:=.fields v}).get? e=some oe:=Zb _ x;have r:f.objs.size≠e:=Xi (Zl x);refine Xw p c w (D _ ⟨?_,ne,?_,?_⟩ ?_)
 ·exact λb o q=>(ZQ _ _ (λz=>by rw[z,q]at ne;cases ne)).trans (Zb _ (k1 b o q))
 ·refine l.of_keeps λb o q d=>?_;obtain⟨u,g⟩:=j.2.2 b o q;exact⟨_,(ZQ _ _ (λz=>by rw[<- z,k]at q;cases q;exact d vs c)).trans (Zb _ g),rfl⟩
 ·refine⟨_,_,f.objs.size,_,v,YG _ p (XO (YN c _)),Vf _ _,YN c _,by simp[w],?_,k1.fresh,r,(ZQ _ _ (Z2 r)).trans (Zh f rfl),rfl,i⟩;rw[Array.getElem?_setIfInBounds_ne 'c'];exact h2
 ·intro b o q d;obtain⟨u,g⟩:=j.2.2 b o q;exact⟨u,(ZQ _ _ (λz=>by rw[<- z,k]at q;cases q;exact d vs c)).trans (Zb _ g)⟩
theorem H_{Q:Unit->af->Prop}{l:List Env}{cls x:aa}(O:Over base l e cls x s.heap)(u:∀f,Over base l e cls .none f->s.heap.UpToSlots f->Q () {s with heap:=f}):ag M A (setFlight (.ref e) none) Q E s:=by
 obtain⟨p,m,w,oe,vs,T,oT,i,j,v,g,h1,h2,c,h,a,dT,r⟩:=O;have k:=(ZC.mp r).1;unfold setFlight;refine Za (ZP j g h1 ?_);rw[Zr 'b'];refine Xw a dT k (u _ ⟨?_,m,?_,?_⟩ ?_)
 ·exact λb o q=>(ZQ _ _ (λz=>by rw[z,q]at c;cases c)).trans (p b o q)
 ·exact w.of_keeps λb o q d=>⟨o,(ZQ _ _ (λz=>by rw[<- z,a]at q;cases q;exact d i dT)).trans q,rfl⟩
 ·exact⟨oe,vs,T,_,_,(ZQ _ _ h).trans j,v,g,h1,h2,c,h,YG _ a (XO (YN dT _)),YN dT _,by simp[k]⟩
 ·exact λb o q d=>⟨o.slots,(ZQ _ _ (λz=>by rw[<- z,a]at q;cases q;exact d i dT)).trans q⟩
theorem q06{Q:Unit->af->Prop}(hfr:A.frames=some (env::outer))(h:s.heap.FunFrames base (env::outer))(d:env.frame=some L)(b:s.heap.get? e=some oe)(g:base.StaysIn s.heap)(ne:base.get? e=none)
  (c:oe.data=.fields vs) (h1:vs[1]?=some .none) (h2:vs[2]?=some .none) (f:∀a,Over base (env::outer) e oe.cls (rawInt L) a->s.heap.UpToSlots a->Q () {s with heap:=a}):ag M A (noteFrame (.ref e) env) Q E s:=by
 unfold noteFrame;simp only[d];refine Za (ZP b c h1 ?_);rw[Zi 'c'];exact UT hfr h d b g ne c h2 f
theorem US{Q:Unit->af->Prop}{cls:aa}(hfr:A.frames=some (env::outer))(j:env.frame=some L)(O:Over base (env::outer) e cls .none s.heap)(w:∀a,Over base (env::outer) e cls (rawInt L) a->s.heap.UpToSlots a->Q () {s with heap:=a}):
  ag M A (noteFrame (.ref e) env) Q E s:=by
 obtain⟨v,l,C,oe,vs,T,oT,p,k,y,f,h1,h2,i,m,c,dT,h⟩:=O;subst y;have x:=(ZC.mp h).1;unfold noteFrame;simp only[j];refine Za (ZP k f h1 ?_);rw[Zr 'b'];refine Za (ZP c dT h ?_);rw[Zi (by simp[rawInt])];refine Za (Xw c dT x ?_);have g:∀b o,s.heap.get? b=some o->(∀r,o.data≠.fields r)->T≠b:=λb o q d z=>by rw[<- z,c]at q;cases q;exact d p dT
 refine UT (s:={s with heap:=_}) hfr ?_ j ((ZQ _ _ m).trans k) ?_ l f h2 λa u B=>w a u λb o q d=>?_
 ·exact C.of_keeps λb o q d=>⟨o,(ZQ _ _ (g b o q d)).trans q,rfl⟩
 ·exact λb o q=>(ZQ _ _ (λz=>by rw[z,q]at i;cases i)).trans (v b o q)
 ·exact B b o ((ZQ _ _ (g b o q d)).trans q) d
theorem qR5{Q:Unit->af->Prop}(hfr:A.frames=some (env::outer))(j:s.heap.FunFrames base (env::outer))(k:env.frame=some L)(d:s.heap.get? e=some oe)(i:base.StaysIn s.heap)(ne:base.get? e=none)
  (f:oe.data=.fields vs) (h1:vs[1]?=some .none) (h2:vs[2]?=some .none) (c:∀b,Over base outer e oe.cls .none b->s.heap.UpToSlots b->Q () {s with heap:=b}):ag M A (leaving env (.ref e)) Q E s:=by
 unfold leaving;refine Za (q06 hfr j k d i ne f h1 h2 λg O U=>?_);refine H_ O λl a h=>c l ⟨a.stays,a.new,a.frames.2.2,a.qJ⟩ (U.trans h)
theorem q07{Q:Unit->af->Prop}{cls:aa}(hfr:A.frames=some (env::outer))(h:env.frame=some L)(O:Over base (env::outer) e cls .none s.heap)(c:∀b,Over base outer e cls .none b->s.heap.UpToSlots b->Q () {s with heap:=b}):
  ag M A (leaving env (.ref e)) Q E s:=by
 unfold leaving;refine Za (US hfr h O λg d U=>?_);refine H_ d λi a f=>c i ⟨a.stays,a.new,a.frames.2.2,a.qJ⟩ (U.trans f)
end
end L2
namespace L2
open PySem PySem.Spec PyProof.Rows
theorem bV.there{P:ah}{w:ak}{H:Hp}{h:ao}{a:ae}{o:HO}(x:bV P w H h a o):∃ob,h.get? a=some ob:=by
 cases o with
 |lst c=>obtain⟨_,_,_,_,e⟩:=x;exact⟨_,e⟩
 |tup c=>obtain⟨_,_,_,o,e,_⟩:=x;exact⟨_,e⟩
 |dK b=>obtain⟨_,_,_,_,o,_,_,e,_⟩:=x;exact⟨_,e⟩
 |dT b=>obtain⟨_,_,_,_,o,_,_,e,_⟩:=x;exact⟨_,e⟩
 |set S n=>obtain⟨o,_,_,_,e,_⟩:=x;exact⟨_,e⟩
 |ins C j fs=>obtain⟨_,_,_,e,_⟩:=x;exact⟨_,e⟩
 |own y=>exact x
 |xd fs=>obtain⟨_,⟨_,_,_,e,_⟩,_⟩:=x;exact⟨_,e⟩
 |tE d g=>obtain⟨_,_,_,e⟩:=x;exact⟨_,e⟩
 |ic ob u=>obtain⟨e,_⟩:=x;exact⟨_,e⟩
 |uG k=>exact⟨_,(show h.get? a=some _ from x)⟩
 |met f y=>exact⟨_,(show h.get? a=some _ from x)⟩
 |ext i=>exact x.2.1
def Gj(P:ah)(w:ak)(outer:List Env)(H a:Hp)(h h':ao)(x:ae)(cls:aa):Prop:=
 ∃(B:ao),Un (dO outer) [] H a h h'/\eV P w a h'/\Over B outer x cls .none h'/\(∀b o,h.get? b=some o->b∉dO outer->∃ob,B.get? b=some ob)/\(∀b o,a b=some o->∃ob,B.get? b=some ob)/\a x=none
def fc(P:ah)(w:ak):lW:=λa H s E e b=>∃(x:ae)(cls:aa)(c:Hp),e=.ref x/\b.os=s.os/\AllBare b.gens/\Gj P w a H c s.heap b.heap x cls/\E cls none c
def R4(X:Cx)(E:XK):Prop:=∀(c:List (ae×aw))(b:St)(H:Hp)(s:af)(a:ao)(e:ae)(cls:aa)(args:List aa),Inv X c b H s->Heap.MadeExcOf s.heap a e cls args->E cls none H->X.xe (.ref e) {s with heap:=a}
section
variable{H H1 H':Hp}{h h1 h':ao}{outer:List Env}{env:Env}{x L:ae}{cls:aa}
theorem Gj.left{B:ao}(d:Un (dO outer) [] H H1 h h1)(l:∀b o,h.get? b=some o->b≠L)(C:env.frame=some L)(g:Un (dO (env::outer)) [] H1 H' h1 h')(K:eV P w H' h')
  (k:∀b o,h1.get? b=some o->b∉dO (env::outer)->∃ob,B.get? b=some ob) (p:∀b o,H' b=some o->∃ob,B.get? b=some ob) (S:H' x=none) (st:B.StaysIn h') (R:h.FunFrames B' outer)
  {h2:ao}(i:Over B outer x cls .none h2) (Q:h'.UpToSlots h2):Gj P w outer H H' h h2 x cls:=by
 have fr:∀b,b∉dO outer->b≠L->b∉dO (env::outer):=λb hb M j=>by
  unfold dO at j hb;rw[ZY,C]at j;rcases ZB.mp j with z|z
  ·exact M z
  ·exact hb z
 have I:∀b,b∈dO outer->b∈dO (env::outer):=λb hb=>by
  unfold dO at hb ⊢;rw[ZY,C];exact Zn _ hb
 have my:∀b:ae,b∉([]:List ae):=λb=>by simp
 have same:∀b ob o,B.get? b=some ob->h'.get? b=some o->h2.get? b=some o:=λb ob o a f=>by
  have D:=st b ob a;have W:=i.stays b ob a;rw[f]at D;cases D;exact W
 refine⟨B,⟨λb o e n hb _=>?_,λb o e n hb _=>?_,λb o e n _=>?_,λb o e _=>?_,λb E e=>g.cC b E (d.cC b E e),λb o u e=>g.gq b o u (d.gq b o u e),λb O e=>?_⟩,λb o e=>?_,i,λb o e hb=>?_,p,S⟩
 ·have a:=d.keep b o e n hb (my b);have v:=fr b hb (l b o e);have f:=g.keep b o a (d.free b o e n (my b)) v (my b);obtain⟨ob,z⟩:=k b o a v;exact same b ob o z f
 ·obtain⟨X,a⟩:=d.slot b o e n hb (my b);obtain⟨Y,f⟩:=g.slot b _ a (d.free b o e n (my b)) (I b hb) (my b);obtain⟨_,A,s,F⟩:=R.mem hb;rw[e]at s;cases s;obtain⟨J,U⟩:=Q b _ f F;exact⟨J,U⟩
 ·obtain⟨A,a⟩:=d.there b o e (my b);exact g.free b A a (d.free b o e n (my b)) (my b)
 ·obtain⟨m,a⟩:=d.there b o e (my b);by_cases hb:b∈dO (env::outer)
  ·by_cases y:b∈dO outer
   ·obtain⟨_,G,f,_⟩:=i.frames.mem y;exact⟨G,f⟩
   ·exact absurd hb (fr b y (l b o e))
  ·obtain⟨ob,z⟩:=k b m a hb;exact⟨ob,i.stays b ob z⟩
 ·obtain⟨V,a⟩:=d.gG b O e;obtain⟨N,f⟩:=g.gG b _ a;exact⟨V++N,by rw[f,Array.append_assoc]⟩
 ·refine(K b o e).fM (λc u T q=>?_) (λ_ q=>q) λ_ _ q=>q;rcases T with z|z
  ·obtain⟨ob,r⟩:=p b o e;rw[z]at q ⊢;exact same b ob u r q
  ·obtain⟨ob,r⟩:=p c _ z;exact same c ob u r q
 ·obtain⟨m,a⟩:=d.there b o e (my b);exact k b m a (fr b hb (l b o e))
end
section
variable{mg:aq->Option aa}{base:ao}{N:List aq}{qual:aq}{scope:ax}{f:ae}{cd:aa}{A:au}{outer:List Env}{aG:af}{aK:Hp}{E:XK}
theorem lH:tH (fc P w) (ke (fc P w) P w K mg base N qual scope f cd A outer aG aK E) E:=by
 intro y u H s e v I h;obtain⟨x,a,i,rfl,k,hb,⟨B,U,l,c,j,q,p⟩,r⟩:=h;have d:(envOfC qual scope aG.heap.objs.size f cd).frame=some aG.heap.objs.size:=rfl;refine q07 I.ok.frames d c λh2 g m=>?_;refine⟨x,a,i,rfl,k.trans I.os,hb,?_,r⟩;exact Gj.left I.base (λb o e=>Zz (Zl e)) d U l j q p c.stays I.ok.dS g m
theorem VT:R4 (ke (fc P w) P w K mg base N qual scope f cd A outer aG aK E) E:=by
 intro C y H s h' e g k I c v;have l:(envOfC qual scope aG.heap.objs.size f cd).frame=some aG.heap.objs.size:=rfl;have m:s.heap.FunFrames base (envOfC qual scope aG.heap.objs.size f cd::outer):=I.stack;have p:∀d∈(envOfC qual scope aG.heap.objs.size f cd::outer),∀a,d.frame=some a->a∈dO (envOfC qual scope aG.heap.objs.size f cd::outer):=λd h a x=>Wn.mpr ⟨d,h,x⟩;obtain⟨t,h,_,_⟩:=c.there;have i:(PySem.W.hideAll s.heap (dO (envOfC qual scope aG.heap.objs.size f cd::outer))).get? e=none:=by
  cases q:(PySem.W.hideAll s.heap (dO (envOfC qual scope aG.heap.objs.size f cd::outer))).get? e with
  |none=>rfl
  |some o=>
   have:=Wm _ q;rw[c.new]at this;cases this
 have u:H e=none:=by
  cases z:H e with
  |none=>rfl
  |some o=>
   obtain⟨ob,q⟩:=(I.aW e o z).there;rw[c.new]at q;cases q
 refine qR5 (base:=PySem.W.hideAll s.heap (dO (envOfC qual scope aG.heap.objs.size f cd::outer))) I.ok.frames ((PySem.W.funFrames_hide m p).of_keeps λb o hb _=>⟨o,c.keeps b o hb,rfl⟩) l h
  (λb o hb=>c.keeps b o (Wm _ hb)) i rfl rfl rfl λh2 r k4=>?_
 refine⟨e,g,H,rfl,I.os,I.bare,?_,v⟩;refine Gj.left (B:=PySem.W.hideAll s.heap (dO (envOfC qual scope aG.heap.objs.size f cd::outer))) (h':=h') I.base (λb o z=>Zz (Zl z)) l (Un.kept c.keeps) (I.aW.kept c.keeps) (λb o z hb=>⟨o,WY _ z hb⟩) (λb o z=>?_) u (λb o hb=>c.keeps b o (Wm _ hb)) I.ok.dS r k4;obtain⟨ob,q⟩:=(I.aW b o z).there;refine⟨ob,WY _ q λj=>?_⟩;have:=I.lz b j;rw[z]at this;cases this
end
def nU(r:ae)(n:Nat)(h:ao):Prop:=∃o a b t,h.get? r=some o/\o.ExactSet/\o.data=.set a b t/\t.fits a.size=true/\a.size=n
section
variable{X:Cx}
theorem xN9{k:Key}{u:aa}(r:RelV (kV k) u):cY.Hb u:=by
 cases k with
 |inl i=>obtain⟨t,rfl⟩:=r;exact cY.Hb.int i t
 |inr x=>obtain⟨t,rfl⟩:=r;exact cY.Hb.str x t
theorem R3:∀{b:List Key}{c:List aa},Vals (b.map kV) c->∀v∈c,cY.Hb v
 |[],_,.nil,v,a=>by cases a
 |k::b,_,.cons r t,v,a=>by
  rcases ZB.mp a with rfl|a
  ·exact xN9 r
  ·exact R3 t v a
theorem VS{P:ah}{w:ak}{H:Hp}{h:ao}{b:ae}{a:List Key}(ok:eV P w H h)(e:H b=some (.tup (a.map kV))):cY.gu (gc P w) h a b:=by
 obtain⟨_,f,r,o,d,i,n,c⟩:=ok b _ e;exact⟨o,f.toArray,n,d,i,c,by simpa using MY r,λv g=>R3 r v (by simpa using g)⟩
inductive mJ(xs:List V)(H:Hp)(Q:VK):Prop
 |mk(p:ae)(bs:List ae)(rows:List (List Key))(aM:xs=[.ref p])(dh:H p=some (.tup (bs.map V.ref)))(bH:bs.length=rows.length)(aF:(∀(i:Nat) b ks,bs[i]?=some b->rows[i]?=some ks->H b=some (.tup (ks.map kV))))(zX:rows.Nodup)(By:rows.length<=1200)(e6_:∀r,H r=none->Q (.ref r) (upd H r (.ext (nU r rows.length))))
theorem q83(hc:X.calm=true){k:Nat}(T:aS k X.A):iO X (.type "set") mJ:=by
 intro j4 s σ H xs us Q I P h;obtain⟨p,bs,rows,rfl,W,f,O,U,A,q⟩:=h;obtain⟨u,rfl,ru⟩:=lG P;cases ru;obtain⟨_,d,K,Eg⟩:=I.aW p _ W;have l:d.length=bs.length:=by have:=K.length;simpa using this.symm
 have un:=T.units;have item:∀(i:Nat)(v:aa),d[i]?=some v->∃b,bs[i]?=some b/\v=.ref b:=λi v w=>by
  have c:i<bs.length:=by rw[<- l];exact(cx w).1
  obtain⟨w',m,y⟩:=K.get (i:=i) (x:=V.ref bs[i]) (by simp[c]);rw[w]at m;cases m;exact⟨bs[i],by simp[c],y⟩
 refine cY.iX (knd:=gc X.prog X.w) (items:=d.toArray) (val:=λi=>rows.getD i []) (I.ok.hd hc) 'a' (show s.heap.IsTuple p d.toArray from Eg) (λi v w=>?_) (λi j kG L z=>?_) (by rw[Zx,l,f];exact A) λh' tk B kp=>?_
 ·obtain⟨b,hb,rfl⟩:=item i v (by simpa using w);have c:i<rows.length:=by rw[<- f];exact(cx hb).1
  have e:rows.getD i []=rows[i]:=by simp[List.getD,c]
  show ∃G,Value.ref b=.ref G/\cY.gu _ s.heap (rows.getD i []) G;rw[e];exact⟨b,rfl,VS I.aW (O i b rows[i] hb (by simp[c]))⟩
 ·rw[Zx,l,f]at L;have F:rows.getD i []=rows.getD j []:=z;have c:i<rows.length:=by lia
  have m:rows.getD i []=rows[i]:=by simp[List.getD,c]
  have y:rows.getD j []=rows[j]:=by simp[List.getD,L]
  rw[m,y]at F;have:=(Vl U).mp F;lia
 ·obtain⟨Ks,S⟩:=B;obtain⟨o,J,ep,t,D,R,M,g,hf,_,Y,_⟩:=S.ex;have O6:J.size=rows.length:=by rw[Y,Zx,l,f]
  refine⟨.ref s.heap.objs.size,_,I.laid (a:=s.heap.objs.size) (o:=.ext (nU s.heap.objs.size rows.length)) (t':=tk) (λb o e=>kp b o (Zl e) e) (Zg _) ⟨⟨o,J,ep,t,D,R,M,g.fits,O6⟩,⟨o,D⟩,λh1 h2 φ k=>?_⟩,rfl,q _ (I.aW.fresh (Zg _))⟩;obtain⟨E,C,Z,t',N,r⟩:=φ;exact⟨E,C,Z,t',k E N,r⟩
inductive kg(xs:List V)(H:Hp)(Q:VK):Prop
 |mk(r:ae)(n:Nat)(aM:xs=[.ref r])(dh:H r=some (.ext (nU r n)))(bH:n<=1200)(aF:Q (.int n) H)
theorem VJ:iO X (.builtin "len") kg:=by
 intro l s j H m v Q I c h;obtain⟨r,n,rfl,f,k,q⟩:=h;obtain⟨u,rfl,i⟩:=lG c;cases i;obtain⟨⟨o,a,p,t,e,d,b,g,rfl⟩,_⟩:=I.aW r _ f;have hb:(a.size:Int)<=1200:=by lia
 exact call_len_set e d b g (Int.lt_of_le_of_lt hb 'c') ⟨.int a.size,H,I.tok _,⟨_,rfl⟩,q⟩
end
mutual
inductive cq(H:Hp):V->PyData->Prop
 |cA:cq H .cA .none
 |bl (b:Bool):cq H (.bl b) (.bool b)
 |int (i:Int):cq H (.int i) (.int i)
 |str (x:aq):cq H (.str x) (.str x)
 |lst {a:ae}{xs:List V}{ds:List PyData}(h:H a=some (.lst xs)) (r:aT H xs ds):cq H (.ref a) (.list ds)
 |tup {a:ae}{xs:List V}{ds:List PyData}(h:H a=some (.tup xs)) (r:aT H xs ds):cq H (.ref a) (.tuple ds)
inductive aT(H:Hp):List V->List PyData->Prop
 |nil:aT H [] []
 |cons {x:V}{xs:List V}{d:PyData}{ds:List PyData}(h:cq H x d) (r:aT H xs ds):aT H (x::xs) (d::ds)
end
section
variable{H:Hp}{h:ao}
mutual
theorem cq.reads(ok:eV P w H h):∀{x:V}{d:PyData}{u:aa},cq H x d->RelV x u->∃c,Reads h u d c
 |_,_,u,.cA,r=>⟨[],by cases(show u=Value.none from r);exact .none⟩
 |_,_,u,.bl b,r=>⟨[],by cases(show u=Value.bool b from r);exact .bool b⟩
 |_,_,u,.int i,r=>⟨[],by obtain⟨t,rfl⟩:=r;exact .int i t⟩
 |_,_,u,.str x,r=>⟨[],by obtain⟨t,rfl⟩:=r;exact .str x t⟩
 |_,_,u,.lst (a:=a) e rs,r=>by
  cases(show u=Value.ref a from r);obtain⟨_,l,n,j,f⟩:=ok a _ e;obtain⟨c,g⟩:=aT.reads ok rs j;exact⟨a::c,.list f rfl rfl (by simpa using g)⟩
 |_,_,u,.tup (a:=a) e rs,r=>by
  cases(show u=Value.ref a from r);obtain⟨_,l,j,o,f,m,n,k⟩:=ok a _ e;obtain⟨c,g⟩:=aT.reads ok rs j;exact⟨c,.tuple f m k (by simpa using g)⟩
theorem aT.reads(ok:eV P w H h):∀{d:List V}{c:List PyData}{b:List aa},aT H d c->Vals d b->∃a,ReadsAll h b c a
 |_,_,_,.nil,.nil=>⟨[],.nil⟩
 |_,_,_,.cons h1 f,.cons r i=>by
  obtain⟨a,g⟩:=cq.reads ok h1 r;obtain⟨bs,e⟩:=aT.reads ok f i;exact⟨a++bs,.cons g e⟩
end
mutual
theorem cq.same{a:Hp}(s:∀b o,H b=some o->a b=some o):∀{x:V}{d:PyData},cq H x d->cq a x d
 |_,_,.cA=>.cA
 |_,_,.bl b=>.bl b
 |_,_,.int i=>.int i
 |_,_,.str x=>.str x
 |_,_,.lst e r=>.lst (s _ _ e) (aT.same s r)
 |_,_,.tup e r=>.tup (s _ _ e) (aT.same s r)
theorem aT.same{c:Hp}(s:∀b o,H b=some o->c b=some o):∀{d:List V}{a:List PyData},aT H d a->aT c d a
 |_,_,.nil=>.nil
 |_,_,.cons h r=>.cons (cq.same s h) (aT.same s r)
end
theorem aT.ints:∀(a:List Int),aT H (a.map V.int) (a.map PyData.int)
 |[]=>.nil
 |n::a=>.cons (.int n) (aT.ints a)
end
section
variable{X:Cx}
inductive rW(x:V)(y:V)(H:Hp)(Q:VK):Prop
 |mk(d:_)(e:_)(aM:cq H x d)(dh:cq H y e)(bH:d.canLay0=true)(aF:e.canLay0=true)(zX:d.depth<=60)(By:Q (.bl (PyData.eqv d e)) H)
theorem Iu{k:Nat}(c:aS k X.A):gF X (compareOp .Eq) rW:=by
 intro r s p H x y v u Q I f m h;obtain⟨d,e,a,g,b,j,dp,q⟩:=h;obtain⟨w,l⟩:=a.reads I.aW f;obtain⟨bs,i⟩:=g.reads I.aW m;have un:=c.units;exact SeqAt.rcAt_reads l i b j 'a' X.prog X.w X.xe _ ⟨.bl _,H,I,rfl,q⟩
inductive rV(x:V)(y:V)(H:Hp)(Q:VK):Prop
 |mk(d:_)(e:_)(aM:cq H x d)(dh:cq H y e)(bH:d.canLay0=true)(aF:e.canLay0=true)(zX:d.depth<=60)(By:Q (.bl (!PyData.eqv d e)) H)
theorem xH5{k:Nat}(c:aS k X.A):gF X (compareOp .NotEq) rV:=by
 intro r s p H x y v u Q I f m h;obtain⟨d,e,a,g,b,j,dp,q⟩:=h;obtain⟨w,l⟩:=a.reads I.aW f;obtain⟨bs,i⟩:=g.reads I.aW m;have un:=c.units;exact SeqAt.rcNeAt_reads l i b j 'a' X.prog X.w X.xe _ ⟨.bl _,H,I,rfl,q⟩
end
theorem LQ:∀(a b:List Int),PyData.eqvAll (a.map PyData.int) (b.map PyData.int)=decide (a=b)
 |[],[]=>by simp[PyData.eqvAll]
 |x::a,[]=>by simp[PyData.eqvAll]
 |[],y::b=>by simp[PyData.eqvAll]
 |x::a,y::b=>by
  show(PyData.eqv (.int x) (.int y)&&PyData.eqvAll (a.map PyData.int) (b.map PyData.int))=_;rw[LQ a b,show PyData.eqv (.int x) (.int y)=(x==y) by simp[PyData.eqv]];rw[Y2];simp
theorem LP:∀(a:List Int),PyData.canLayAll0 (a.map PyData.int)=true
 |[]=>by simp[PyData.canLayAll0]
 |x::a=>by
  show(PyData.canLay0 (.int x)&&PyData.canLayAll0 (a.map PyData.int))=true;rw[LP a];simp[PyData.canLay0]
def dT(a:List Int):PyData:=.tuple (a.map PyData.int)
def dL(a:List Int):PyData:=.list (a.map PyData.int)
theorem M3(a:List Int):(dT a).canLay0=true:=by
 exact LP a
theorem Ir(a:List Int):(dL a).canLay0=true:=by
 exact LP a
theorem xH6(a b:List Int):PyData.eqv (dT a) (dT b)=decide (a=b):=by
 exact LQ a b
theorem R0(a b:List Int):PyData.eqv (dL a) (dL b)=decide (a=b):=by
 exact LQ a b
end L2
namespace gh
open PySem PySem.Spec
theorem dy{it t:ae}{i:Nat}{items:Array aa}{x:aa}{Q:aa->af->Prop}(st:s.heap.IsTupleIter it t i)(h:s.heap.IsTuple t items)(d:items[i]?=some x)
  (q:∀c,c.IsTupleIter it t (i+1)->Heap.SameBut it s.heap c->Q x {s with heap:=c}):ag (aj prog w) A (Builtin.SmallTypes.nextOf (.ref it)) Q E s:=by
 obtain⟨o,b,e,a⟩:=id st;obtain⟨j,g,_,k,f⟩:=h;unfold Builtin.SmallTypes.nextOf;refine Za (ZS (name:=Str.ofString "__next__") st.typeIs Xc (Z7 Xc st.typeIs F.entry_tuple_iterator_next ?_ (F.args_tuple_iterator_next_1 _)));show ag _ _ (field (.ref it) 0 >>= _) _ _ s;refine Za (ZP b a (x:=.ref t) rfl ?_);show ag _ _ (if(Value.ref t==Value.none)=true then _ else _) _ _ s;rw[Zi (show ¬((Value.ref t==Value.none)=true)from ZG)];show ag _ _ (field (.ref it) 1 >>= _) _ _ s;refine Za (ZP b a (x:=.int i 0) rfl ?_);show ag _ _ (seqItems? (.ref t) >>= _) _ _ s;refine Za (Xb g f ?_);simp only[YU,d];refine Za (Xw b a 'b' (Zc ⟨x,rfl,Zc (q _ ⟨_,YG _ b (XO (YN a _)),(Vf ..).trans e,?_⟩ (Yh ..))⟩));rw[YN a];simp[rawInt]
theorem h_{it t:ae}{i:Nat}{items:Array aa}{Q:aa->af->Prop}(f:A.handled=none)(st:s.heap.IsTupleIter it t i)(k:s.heap.IsTuple t items)(g:items[i]?=none)
  (q:∀c e,Heap.ExtBut it s.heap c->(∃o,c.get? e=some o/\o.cls=.type "StopIteration")->E (.ref e) {s with heap:=c}):ag (aj prog w) A (Builtin.SmallTypes.nextOf (.ref it)) Q E s:=by
 obtain⟨o,b,p,d⟩:=id st;obtain⟨l,j,_,r,h⟩:=k;unfold Builtin.SmallTypes.nextOf;refine Za (ZS (name:=Str.ofString "__next__") st.typeIs Xc (Z7 Xc st.typeIs F.entry_tuple_iterator_next ?_ (F.args_tuple_iterator_next_1 _)));show ag _ _ (field (.ref it) 0 >>= _) _ _ s;refine Za (ZP b d (x:=.ref t) rfl ?_);show ag _ _ (if(Value.ref t==Value.none)=true then _ else _) _ _ s;rw[Zi (show ¬((Value.ref t==Value.none)=true)from ZG)];show ag _ _ (field (.ref it) 1 >>= _) _ _ s;refine Za (ZP b d (x:=.int i 0) rfl ?_);show ag _ _ (seqItems? (.ref t) >>= _) _ _ s;refine Za (Xb j h ?_);simp only[YU,g];refine Za (XX (Za (Xw b d 'b' ?_)));show ag _ _ (newExc (.type "StopIteration") [] >>= _) _ _ _;refine Za ?_;simp only[newExc,newTuple];refine Za (ZO ?_ (by size_fits));refine Za (m:=firstArgMember _ _) (wpAny_of_eq (a:=Value.none) (by first|rfl|(simp only[firstArgMember];rfl)) ?_);refine ZO ?_ (by size_fits);simp only[raiseNew];refine Za (wpAny_handled ?_)
 first|rw[show A.in1.handled=none from f]|rw[f]
 refine Za (Zc (wpAny_throw ?_));exact q _ _ (((Yh ..).extBut.push _).push _) ⟨_,Zh _ rfl,rfl⟩
theorem q85{e it:ae}{i:Nat}{x a:aa}{St:ao->Prop}{Q:aa->af->Prop}(P:IsEnum s.heap e it i a)(jH:e≠it)
  (nx:∀W:aa->af->Prop,(∀h,Heap.SameBut it s.heap h->St h->W x {s with heap:=h})->ag (aj prog w) A (Builtin.SmallTypes.nextOf (.ref it)) W E s)
  (q:∀h1 h,Heap.SameBut it s.heap h1->St h1->IsEnumOut h e it ((i:Int)+1) x s.heap.objs.size->h.get? s.heap.objs.size=some {cls:=.type "tuple",data:=.seq #[.int i s.toks,x]} ->
   (∀b o,b≠e->h1.get? b=some o->h.get? b=some o)->Q (.ref s.heap.objs.size) {s with heap:=h,toks:=s.toks+1}):
  ag (aj prog w) A (Builtin.«enumerate.__next__» ⟨[.ref e],[]⟩) (λR Y=>∃v,R=.done (.ret v)/\Q v Y) E s:=by
 obtain⟨l,g,d,c,k⟩:=s;show ag _ _ (field (.ref e) 2 >>= _) _ _ _;refine Za (ZP P rfl (x:=.ref it) rfl ?_);refine Za (nx _ λf m Ca=>?_)
 replace m:Heap.SameBut it l f:=m
 have S:IsEnum f e it i a:=(m.2 e jH).trans P;show ag _ _ (field (.ref e) 3 >>= _) _ _ ⟨f,g,d,c,k⟩;refine Za (ZP S rfl (x:=rawInt i) rfl ?_);show ag _ _ (field (.ref e) 4 >>= _) _ _ ⟨f,g,d,c,k⟩;refine Za (ZP S rfl (x:=.none) rfl ?_);show ag _ _ (mkInt i >>= _) _ _ ⟨f,g,d,c,k⟩;refine Za (wpAny_mkInt ?_);show ag _ _ (setField (.ref e) 3 (rawInt ((i:Int)+1)) >>= _) _ _ ⟨f,g,d,c+1,k⟩;refine Za (Yb S 'b' λu J F=>?_)
 replace F:Heap.SameBut e f u:=F
 replace J:IsEnum u e it ((i:Int)+1) a:=J
 show ag _ _ (setField (.ref e) 4 .none >>= _) _ _ ⟨u,g,d,c+1,k⟩;refine Za (Yb J 'b' λp T D=>?_)
 replace D:Heap.SameBut e u p:=D
 replace T:IsEnum p e it ((i:Int)+1) a:=T
 show ag _ _ (newTuple [.int i c,x] >>= _) _ _ ⟨p,g,d,c+1,k⟩;refine Za (wpAny_newTuple ?_);have V:p.objs.size=l.objs.size:=by rw[D.1,F.1,m.1]
 have L:e<l.objs.size:=Zl P;obtain⟨j,y⟩:∃j,p.push {cls:=.type "tuple",data:=.seq #[.int i c,x]}=j:=⟨_,rfl⟩;have I:IsEnum j e it ((i:Int)+1) a:=by rw[<- y];exact Zb _ T
 have Z:j.get? l.objs.size=some {cls:=.type "tuple",data:=.seq #[.int i c,x]}:=by rw[<- y,<- V];exact Zh _ rfl
 have k4:∀b o,b≠e->f.get? b=some o->j.get? b=some o:=λb o hb r=>by
  rw[<- y];exact Zb _ (D.extBut b o hb (F.extBut b o hb r))
 rw[y];show ag _ _ (Builtin.SmallTypes.ownedTupleIsFree (.ref e) >>= _) _ _ ⟨j,g,d,c+1,k⟩;rw[V];refine Za ?_;unfold Builtin.SmallTypes.ownedTupleIsFree;refine Za (ZP I rfl (x:=.none) rfl (Zc ?_));simp only[Yt];refine Za (XX ?_);refine Za (ZP I rfl (x:=a) rfl ?_);refine Za (Yb I 'b' λB O K=>?_)
 replace K:Heap.SameBut e j B:=K
 replace O:IsEnum B e it ((i:Int)+1) x:=O
 show ag _ _ (Builtin.SmallTypes.ownedTupleHandOut (.ref e) (.ref l.objs.size) >>= _) _ _ ⟨B,g,d,c+1,k⟩;refine Za ?_;unfold Builtin.SmallTypes.ownedTupleHandOut;refine Za (Yb O 'b' λM G N=>?_)
 replace N:Heap.SameBut e B M:=N
 replace G:IsEnumOut M e it ((i:Int)+1) x l.objs.size:=G
 refine Yb G 'b' λC H U=>?_
 replace U:Heap.SameBut e M C:=U
 replace H:IsEnumOut C e it ((i:Int)+1) x l.objs.size:=H
 have X:∀b o,b≠e->j.get? b=some o->C.get? b=some o:=λb o hb r=>U.extBut b o hb (N.extBut b o hb (K.extBut b o hb r));exact Za (wpAny_letGo (Zc ⟨_,rfl,q f C m Ca H (X _ _ (Xi L) Z) λb o hb r=>X b o hb (k4 b o hb r)⟩))
theorem pD{e it t:ae}{i:Nat}{items:Array aa}{x d:aa}{Q:Option aa->af->Prop}(f:IsEnum s.heap e it i d)(k:e≠it)(st:s.heap.IsTupleIter it t i)(B:s.heap.IsTuple t items)(v:items[i]?=some x)
  (q:∀h1 a,Heap.SameBut it s.heap h1->IsEnumOut a e it ((i:Int)+1) x s.heap.objs.size->a.IsTupleIter it t (i+1)->a.get? s.heap.objs.size=some {cls:=.type "tuple",data:=.seq #[.int i s.toks,x]} ->
   (∀b o,b≠e->h1.get? b=some o->a.get? b=some o)->Q (some (.ref s.heap.objs.size)) {s with heap:=a,toks:=s.toks+1}):ag (aj prog w) A (pyNext (.ref e)) Q E s:=by
 have g:s.TypeIs (.ref e) "enumerate":=⟨_,f,rfl⟩;unfold pyNext;refine Za (XJ (ZS (name:=Str.ofString "__next__") g XQ (Z7 XQ g F.entry_enumerate_next
  (q85 (St:=λh=>h.IsTupleIter it t (i+1)) f k (λD p=>dy st B v λa r c=>p a c r) λh1 a c y m l j=>Zc (q h1 a c m ?_ l j)) (F.args_enumerate_next_1 _))))
 obtain⟨o,C,u⟩:=y;exact⟨o,j it o (Z2 k) C,u⟩
theorem next_end{e it t:ae}{i:Nat}{items:Array aa}{a:aa}{Q:Option aa->af->Prop}(g:A.handled=none)(d:IsEnum s.heap e it i a)(st:s.heap.IsTupleIter it t i)(m:s.heap.IsTuple t items)(h:items[i]?=none)
  (q:∀c,Heap.ExtBut it s.heap c->Q none {s with heap:=c}):ag (aj prog w) A (pyNext (.ref e)) Q E s:=by
 have f:s.TypeIs (.ref e) "enumerate":=⟨_,d,rfl⟩;unfold pyNext;refine Za (XJ (ZS (name:=Str.ofString "__next__") f XQ (Z7 XQ f F.entry_enumerate_next ?_ (F.args_enumerate_next_1 _))));show ag _ _ (field (.ref e) 2 >>= _) _ _ _;refine Za (ZP d rfl (x:=.ref it) rfl ?_);refine Za (h_ g st m h λc x k ⟨o,j,l⟩=>?_);exact Za (wpAny_isInstance (T:= "StopIteration") (b:=true) ⟨o,j,l⟩ isSubtype_stop (Zc (q _ k)))
theorem q86(l:ae)(items:Array aa)(n:Nat)(e:Option ae)(j:Array (Option aa)):
  Meets (Builtin.«enumerate.__new__» ⟨[.type "enumerate",.ref l],[]⟩) (λ_ R s=>s.heap.get? l=some {cls:=.type "tuple",dict:=e,data:=.seq items n,slots:=j} /\
   R (.ok (.ret (.ref (s.heap.push {cls:=.type "tuple_iterator",data:=.fields #[.ref l,.int 0 0]}).objs.size)))
    {s with heap:=(s.heap.push {cls:=.type "tuple_iterator",data:=.fields #[.ref l,.int 0 0]}).push {cls:=.type "enumerate",data:=.fields #[.none,.bool false,.ref s.heap.objs.size,rawInt 0,.none,.none]}}):=
 .of_wp λprog w A R s h=>by
  obtain⟨f,g,d,i,k⟩:=s;obtain⟨a,h⟩:=h;have p:=sub_enumerate;have b:Heap.IsTuple (Shared.heap ⟨f,g,d,i,k⟩) l items:=⟨_,a,rfl,n,rfl⟩
  wp_walk using Wi a
  refine wpAny_stack_any λm=>Zc ?_;split
  ·rename_i c _ _ _ _ _;cases(c==Value.type "enumerate")
   all_goals
    wp_walk using Wi a,YM b
    exact⟨_,rfl,h⟩
  ·wp_walk using Wi a,YM b
   exact⟨_,rfl,h⟩
theorem iY{l:ae}{items:Array aa}{Q:aa->af->Prop}(j:s.heap.IsTuple l items)
  (q:∀a,IsEnum a (s.heap.objs.size+1) s.heap.objs.size 0 .none->a.IsTupleIter s.heap.objs.size l 0->(∀b o,s.heap.get? b=some o->a.get? b=some o)->Q (.ref (s.heap.objs.size+1)) {s with heap:=a}):
  ag (aj prog w) A (call (.type "enumerate") [.ref l]) Q E s:=by
 obtain⟨⟨c,i,p,k⟩,m,f,n,d⟩:=j
 replace f:c=.type "tuple":=f
 replace d:p=.seq items n:=d
 subst f d;refine callType_new F.called_enumerate 'c' (F.typeCall_enumerate_1 _) (F.newCall_enumerate_1 _) (λg=>F.args_object_init_2 g _) F.entry_enumerate_new (q86 l items n i k) ⟨m,?_⟩;have h:(s.heap.push {cls:=.type "tuple_iterator",data:=.fields #[.ref l,.int 0 0]}).objs.size=s.heap.objs.size+1:=Yq ..;show _/\_;rw[h];have e:=Zh (s.heap.push {cls:=.type "tuple_iterator",data:=.fields #[.ref l,.int 0 0]}) (o:={cls:=.type "enumerate",data:=.fields #[.none,.bool false,.ref s.heap.objs.size,rawInt 0,.none,.none]}) rfl;rw[h]at e;exact⟨⟨_,e,rfl⟩,q _ e ⟨_,Zb _ (Zh _ rfl),rfl,rfl⟩ λb o x=>Zb _ (Zb _ x)⟩
end gh
namespace L2
open PySem PySem.Spec PyProof.Rows
def Q6(K:PySem.W.Frag)(a:ae):It:=
 ⟨λi H=>∃b x,aQ K H a b/\b[i]?=some x,λi H y c=>∃p x,H p=none/\(∀b,aQ K H a b->b[i]?=some x)/\c=upd H p (.tup [.int i,x])/\y=.ref p,λi H=>∃b,aQ K H a b/\b.length<=i⟩
theorem Mm{h:ao}{o a:aw}{b:ae}(e:(h.push o).get? b=some a)(c:b<h.objs.size):h.get? b=some a:=by
 unfold Heap.get? Heap.push at *;simp only[W0]at e;rw[Zi (Zz c)]at e;exact e
theorem q08{P:ah}{w:ak}{K:PySem.W.Frag}{r:List ar}{x1:Nat}{jn:aA}(a e it:ae)(jH:e≠it):
  Turn P w K (.Tuple r x1 jn) (Q6 K a) [e,it] e (λi h=>(∃c,IsEnum h e it i c)/\h.IsTupleIter it a i) where
 mem:=by simp
 obj:=λi h f b hb=>by
  rcases ZB.mp hb with rfl|hb
  ·obtain⟨⟨c,z⟩,_⟩:=f;exact⟨_,z,λv q=>by
    have m:Data.fields _=Data.cell v:=q;cases m⟩
  ·have:b=it:=by simpa using hb
   subst this;obtain⟨_,o,z,_,d⟩:=f;exact⟨o,z,λv q=>by rw[d]at q;cases q⟩
 keep:=λi h h' f k=>by
  obtain⟨⟨c,z⟩,j⟩:=f;exact⟨⟨c,k e 'b' _ z⟩,j.at λo q=>k it 'b' o q⟩
 item:=by
  intro X U Y J hc i j4 s σ H E I D f N;subst U Y J;obtain⟨⟨c,l⟩,j⟩:=f;obtain⟨xs,x,F,T⟩:=N;obtain⟨G,L,p,hz⟩:=I.tuple F;obtain⟨u,hu,ru⟩:=L.get T;obtain⟨e0,e1,e2,e3,e4,e5⟩:=D e 'b';obtain⟨Z,M,f2,S,Q,V⟩:=D it 'b';refine gh.pD l jH j (show s.heap.IsTuple a G.toArray from p) (x:=u) (by simpa using hu) λh1 h' sb ho sV ht kp=>?_;refine⟨_,rfl,wpAny_letOwnedTupleGo_enum ho λh2 kQ Tp=>?_⟩;have R:e<s.heap.objs.size:=Zl l;have W:it<s.heap.objs.size:=by obtain⟨o,z,_⟩:=j;exact Zl z
  have fresh:H s.heap.objs.size=none:=I.aW.fresh (Zg _);have C:h1.objs.size=s.heap.objs.size:=sb.1;have J0:Inv X j4 σ (upd H s.heap.objs.size (.tup [.int i,x])) {s with heap:=s.heap.push {cls:=.type "tuple",data:=.seq #[.int i s.toks,u]},toks:=s.toks+1}:=
   I.laid (λb o q=>Zb _ q) (Zg _) ⟨by show 2<=sizeLine;decide,[.int i s.toks,u],.cons ⟨_,rfl⟩ (.cons ru .nil),_,Zh _ rfl,rfl,⟨_,rfl⟩,rfl⟩
  have y:(upd H s.heap.objs.size (.tup [.int i,x])) it=none:=by rw[bo (Zz W)];exact Z
  have g:(upd H s.heap.objs.size (.tup [.int i,x])) e=none:=by rw[bo (Zz R)];exact e0
  have J1:=J0.turned (it:=it) (h':=h1.push {cls:=.type "tuple",data:=.seq #[.int i s.toks,u]}) (t':=s.toks+1) (λb o hb q=>by
    have q:(s.heap.push {cls:=.type "tuple",data:=.seq #[.int i s.toks,u]}).get? b=some o:=q;by_cases B:b<s.heap.objs.size
    ·have m:s.heap.get? b=some o:=Mm q B;exact Zb _ ((sb.2 b hb).trans m)
    ·have O:b<s.heap.objs.size+1:=by have:=Zl q;rw[Yq]at this;exact this
     have A:b=s.heap.objs.size:=Vu (Xk O) (WJ B);subst A;rw[Zh _ rfl]at q;cases q;have:=Zh h1 (o:={cls:=.type "tuple",data:=.seq #[.int i s.toks,u]}) rfl;rw[C]at this;exact this) y M S Q V
  have J2:=J1.turned (it:=e) (h':=h') (t':=s.toks+1) (λb o hb q=>by
    have q:(h1.push {cls:=.type "tuple",data:=.seq #[.int i s.toks,u]}).get? b=some o:=q;by_cases B:b<s.heap.objs.size
    ·have m:h1.get? b=some o:=Mm q (by rw[C];exact B);exact kp b o hb m
    ·have O:b<s.heap.objs.size+1:=by have:=Zl q;rw[Yq,C]at this;exact this
     have A:b=s.heap.objs.size:=Vu (Xk O) (WJ B);subst A;have:=Zh h1 (o:={cls:=.type "tuple",data:=.seq #[.int i s.toks,u]}) rfl;rw[C]at this;rw[this]at q;cases q;exact ht) g e1 e3 e4 e5
  have J3:=J2.turned (it:=e) (h':=h2) (t':=s.toks+1) (λb o hb q=>(Tp.2 b hb).trans q) g e1 e3 e4 e5;refine⟨.ref s.heap.objs.size,_,J3,rfl,⟨_,x,fresh,λys hy=>by rw[I.fH hy F];exact T,rfl,rfl⟩,⟨⟨u,by
   have:(((i+1:Nat)):Int)=(i:Int)+1:=by lia
   rw[this];exact kQ⟩,sV.at λo q=>(Tp.2 it (Z2 jH)).trans q⟩,λb hb=>?_⟩
  rcases ZB.mp hb with rfl|hb
  ·exact g
  ·have:b=it:=by simpa using hb
   subst this;exact y
 done:=by
  intro X U Y J hc i j4 s σ H E I D f N;subst U Y J;obtain⟨⟨c,l⟩,j⟩:=f;obtain⟨xs,F,T⟩:=N;obtain⟨G,L,p,hz⟩:=I.tuple F;obtain⟨Z,M,f2,S,Q,V⟩:=D it 'b';have hl:=L.length;exact gh.next_end (I.ok.hd hc) l j (show s.heap.IsTuple a G.toArray from p) (by simp;lia) λh' A=>⟨rfl,I.turned (t':=s.toks) (λb o hb e=>A b o hb e) Z M S Q V⟩
 self:=λ_ _ _ _ _ f h=>by
  obtain⟨⟨c,l⟩,_⟩:=f;exact wpAny_pyIter_enum l h
section
variable{X:Cx}{elts:List ar}{x1:Nat}{jn:aA}
def xH7(K:PySem.W.Frag)(c:TA):TI:=λd H R=>c d H λe b=>∃a,e=[.ref a]/\(∃f,aQ K b a f)/\R (Q6 K a) b
theorem Ui{e:ar}{i:TA}{p f:aA}(w:Gl X "enumerate")(m:X.mg "enumerate"=none)(E:PA X [e] i)(hs:starEach [e] X.env=[(false,eval e X.env)]:=by rfl):PI X (.Tuple elts x1 jn) (.Call (.Name "enumerate" p) [e] [] f) (xH7 X.K i):=by
 intro j s g H R I h;refine Call_ (A4 I w m PyProof.Rows.boot_enumerate (Y6 (bC (E f j s g H _ I h) λM c ⟨K,l,d,C,A⟩=>?_) hs rfl));obtain⟨a,rfl,⟨L,B⟩,q⟩:=A;obtain⟨u,rfl,y⟩:=lG C;cases y;obtain⟨r,F,pt,G⟩:=d.tuple B;refine gh.iY (show c.heap.IsTuple a r.toArray from pt) λx k v D=>?_;refine wpAny_pyIter_enum k ?_;have J:Inv X j g l {c with heap:=x}:=d.kept (t':=c.toks) D;refine⟨c.heap.objs.size+1,[c.heap.objs.size+1,c.heap.objs.size],_,_,l,rfl,J,q08 a _ _ (Nat.succ_ne_self _),⟨⟨.none,k⟩,v⟩,λb hb=>?_,q⟩;rcases ZB.mp hb with rfl|hb
 ·exact d.lP (Nat.le_succ _) (d.aW.fresh (Nat.le_succ _))
 ·have:b=c.heap.objs.size:=by simpa using hb
  subst this;exact d.lP (Zg _) (d.aW.fresh (Zg _))
end
section
variable{X:Cx}
def gP(X:Cx)(scope:ax)(a:List (aq×ae))(C:ae)(b:List aq)(fp:List ae)(aG:af)(aK:Hp):Cx:=
 {X with N:=b++X.N,aG:=aG,aK:=aK,env:=compEnvC scope a C X.env,outer:=X.stack,stack:=X.stack,ex:=fp,fn:=λ_=>false,pn:=[],xe:=λ_ _=>False}
def uY(n:Nat)(r:TI)(g:TG)(s:TT)(te:TE):TE:=λe H Q=>r e H λJ j=>∀D,j D=none->∃W:Nat->Nat->List V->Hp->Prop,(∃m,W 0 m [] (upd j D (.lst []))) /\
 ∀i m a c,W i m a c->c D=some (.lst a)/\a.length<sizeLine/\((J.stop i c/\Q (.ref D) c)\/(J.go i c/\∀y l,J.mV i c y l->∀p:St,p.length=n ->
  g y (p++e) l λh q=>s h q λb f=>if b=true then te h f λv k=>k D=some (.lst a)/\∃d,d<m/\W (i+1) d (a++[v]) (upd k D (.lst (a++[v])))else ∃d,d<m/\W (i+1) d a f))
theorem q87{prog:ah}{w:ak}{A:au}{R:Result->af->Prop}{s:af}{b a iter:ar}{d:List ar}{scope:ax}{e:aA}{it acc:aa}{env:Env}(T:Sem Bool)
  (D:compTurn (.ListComp b [⟨a,iter,d,0⟩] scope e) 0 it acc env=(standAt iter.pos >>= λ_=>pyNext it >>= λr=>match r with
   |none=>pure (.done .next)
   |some v=>letOwnedTupleGo a it v >>= λ_=>assign a env v >>= λ_=>T >>= λok=>(if ok=true then(eval b env >>= λx=>call (.builtin "list.append") [acc,x] >>= λ_=>pure ())else pure ()) >>= λ_=>
     again (.compLoop (.ListComp b [⟨a,iter,d,0⟩] scope e) 0 it acc env)))
  (I:Nat->af->Prop)
  (f:∀n s,I n s->ag (aj prog w) A (pyNext it) (λr i=>match r with
   |none=>R (.ok .next) i
   |some v=>ag (aj prog w) A (letOwnedTupleGo a it v) (λ_ q=>ag (aj prog w) A (assign a env v) (λ_ p=>ag (aj prog w) A T (λok j=>
     if ok=true then ag (aj prog w) A (eval b env) (λx u=>ag (aj prog w) A (call (.builtin "list.append") [acc,x]) (λ_ k=>∃m,m<n/\I m k) (λ_ _=>False) u) (λ_ _=>False) j
     else ∃m,m<n/\I m j) (λ_ _=>False) p) (λ_ _=>False) q) (λ_ _=>False) i) (λ_ _=>False) s)
  (n:Nat) (h:I n s):codeAny (aj prog w) A (.compLoop (.ListComp b [⟨a,iter,d,0⟩] scope e) 0 it acc env) R s:=by
 refine codeAny_loop rfl I (λn s F=>?_) n h;show ag _ A ((compTurn (.ListComp b [⟨a,iter,d,0⟩] scope e) 0 it acc env).onRaise (λx=>do noteFrame x env;theTreesLotGoes x)) _ _ s;refine wpAny_noted ?_;rw[D];refine Za (WK (Za (Yz (f n s F) (λr i l=>?_) λ_ _ c=>c.elim)));cases r with
 |none=>exact Zc l
 |some v=>
  refine Za (Yz l (λ_ q B=>?_) λ_ _ c=>c.elim);refine Za (Yz B (λ_ p y=>Za (Yz y (λok j g=>?_) λ_ _ c=>c.elim)) λ_ _ c=>c.elim);cases ok with
  |true=>
   rw[Zr rfl]at g;simp only[Yt];exact Za (Za (Yz g (λx u E=>Za (Yz E (λ_ k C=>Zc (Zc ⟨rfl,C⟩)) λ_ _ c=>c.elim)) λ_ _ c=>c.elim))
  |false=>
   rw[Zi ZG]at g;simp only[Zv,Z0];exact Za (Zc (Zc ⟨rfl,g⟩))
theorem Ml(b a iter:ar)(scope:ax)(c:aA)(it acc:aa)(env:Env):compTurn (.ListComp b [⟨a,iter,[],0⟩] scope c) 0 it acc env=(standAt iter.pos >>= λ_=>pyNext it >>= λr=>match r with
   |none=>pure (.done .next)
   |some v=>letOwnedTupleGo a it v >>= λ_=>assign a env v >>= λ_=>(pure true:Sem Bool) >>= λok=>(if ok=true then(eval b env >>= λx=>call (.builtin "list.append") [acc,x] >>= λ_=>pure ())else pure ()) >>= λ_=>
     again (.compLoop (.ListComp b [⟨a,iter,[],0⟩] scope c) 0 it acc env)):=by
 rw[compTurn_list1];congr 1
theorem xk7(b a iter c:ar)(scope:ax)(d:aA)(it acc:aa)(env:Env):compTurn (.ListComp b [⟨a,iter,[c],0⟩] scope d) 0 it acc env=(standAt iter.pos >>= λ_=>pyNext it >>= λr=>match r with
   |none=>pure (.done .next)
   |some v=>letOwnedTupleGo a it v >>= λ_=>assign a env v >>= λ_=>isTrue c env (eval c env) >>= λok=>(if ok=true then(eval b env >>= λx=>call (.builtin "list.append") [acc,x] >>= λ_=>pure ())else pure ()) >>= λ_=>
     again (.compLoop (.ListComp b [⟨a,iter,[c],0⟩] scope d) 0 it acc env)):=by
 rw[compTurn_list];refine Vr λ_=>Vr λr=>?_;cases r with
 |none=>rfl
 |some v=>
  refine Vr λ_=>Vr λ_=>?_;simp only[Y3,WE,Yt,bind_assoc,pure_bind];refine Vr λok=>?_;cases ok<;>simp
theorem qR8{N:List (ae×aw)}{σ:St}{H:Hp}{s:af}{h':ao}{tk:Nat}{scope:ax}{r:List (aq×ae)}{C:ae}{nn:List aq}{fp:List ae}{m:aq->Option aa}
  (I:Inv X N σ H s) (G:C=s.heap.objs.size) (keep:∀b o,s.heap.get? b=some o->h'.get? b=some o) (ns:h'.Ns C m) (A:∀b∈fp,gz X N H b) (F:∀b∈fp,b<s.heap.objs.size)
  (Y:scope.kind=.function) (x:∀y∈scope.names,y.2≠.cell) (S:∀y∈X.N,scope.names.lookup y≠some .local)
  (l:∀y c,r.lookup y=some c->X.env.cells.lookup y=some c) (P:∀p∈scope.names,p.2=.free->(r.lookup p.1).isSome=true)
  (hfr:∀p∈scope.names,p.2=.free->uB X.env.scope p.1/\X.env.scope.names.lookup p.1≠some .local):
  Inv (gP X scope r C nn fp s H) [] ((nn.map λ_=>none)++σ) H {s with heap:=h',toks:=tk}:=by
 have f:∀y c,r.lookup y=some c->∃v,s.heap.IsCell c v:=λy c e=>I.cell y c (l y c e);have QN:∀y c,r.lookup y=some c->c<s.heap.objs.size:=λy c e=>by
  obtain⟨v,q⟩:=f y c e;exact q.lt
 have M:∀c v,s.heap.IsCell c v->h'.IsCell c v:=λc v ⟨o,e,d⟩=>⟨o,keep c o e,d⟩;have L:∀b∈dO X.stack,∃o,s.heap.get? b=some o:=λb hb=>by
  rcases ZB.mp (I.gm b hb)with e|hb
  ·obtain⟨_,⟨o,_,_,E,_⟩,_⟩:=I.loc;exact⟨o,by rw[e];exact E⟩
  ·obtain⟨_,o,E,_⟩:=I.dS.mem hb;exact⟨o,E⟩
 refine⟨⟨I.ok.mod,Y,I.ok.glob,I.ok.blt,Wv G.symm,λy z c h1 h2=>I.ok.inj y z c (l y c h1) (l z c h2),λy g=>?_,λy c h _=>Bool.noConfusion h,I.ok.hd,I.ok.frames,.inl rfl,λb hb=>⟨?_,λy c e z=>?_⟩,I.bs,
  ZN I.ok.oU I.sz,λb o e hb=>?_,λb hb V=>?_,I.stack,I.lz⟩,rfl,I.bare,Un.kept keep,⟨m,ns,λi y v h1 h2 a=>?_⟩,λy c e=>?_,?_,λy c e=>?_,λp k=>absurd k (by simp[gP]),I.aW.kept keep,?_⟩
 ·
  have g:(relabel scope X.env).names.lookup y=some .cell\/(relabel scope X.env).names.lookup y=some .free:=g;obtain⟨p,k,B,w⟩:∃p∈scope.names,p.1=y/\p.2=.free:=by
   rcases g with g|g
   ·exact CY g x (.inl rfl)
   ·exact CY g x (.inr rfl)
  obtain⟨c,e⟩:=Xo.mp (P p k w);exact⟨c,by rw[<- B];exact e⟩
 ·show b≠C;rw[G];exact Zz (F b hb)
 ·exact(A b hb).2.2.2.2.1 y c (l y c e) z
 ·rcases(A b hb).2.2.2.1 with z|z
  ·exact I.ok.lJ b o e z
  ·exact absurd (ZJ (Zl (I.ok.bs b o e).1) z) (YH _)
 ·rcases ZB.mp (I.gm b V)with z|z
  ·exact(A b hb).2.1 z
  ·exact(A b hb).2.2.1 z
 ·
  by_cases U:i<nn.length
  ·rw[Zm (by simpa using U)]at h2;simp at h2
  ·obtain⟨j,rfl⟩:∃j,i=nn.length+j:=⟨i-nn.length,by lia⟩;have h1:X.N[j]?=some y:=by
    have h1:(nn++X.N)[nn.length+j]?=some y:=h1;rw[Zs (YQ _ _),Nat.add_sub_cancel_left]at h1;exact h1
   have h2:σ[j]?=some (some v):=by
    rw[Zs 'b']at h2;simpa using h2
   have a:(relabel scope X.env).names.lookup y=some .local\/(relabel scope X.env).names.lookup y=some .cell\/(relabel scope X.env).names.lookup y=some .free:=a;rcases a with a|a
   ·exact absurd (TF a) (S y (Zo h1))
   ·obtain⟨p,k,B,w⟩:∃p∈scope.names,p.1=y/\p.2=.free:=by
     rcases a with a|a
     ·exact CY a x (.inl rfl)
     ·exact CY a x (.inr rfl)
    obtain⟨Q,O⟩:=hfr p k w;rw[B]at Q O;obtain⟨m0,_,J⟩:=I.loc;obtain⟨u,W,D⟩:=J j y v h1 h2 Q;rcases D with⟨D,_⟩|⟨_,c,Z,R⟩
    ·exact absurd D O
    ·obtain⟨T,K⟩:=Xo.mp (P p k w);rw[B]at K;have:=l y T K;rw[Z]at this;cases this;refine⟨u,W,.inr ⟨a,c,K,M c _ R⟩⟩
 ·obtain⟨v,q⟩:=f y c e;exact⟨v,M c v q⟩
 ·show H C=none;exact I.aW.fresh (Wv G.symm)
 ·exact I.cT y c (l y c e)
 ·show((nn.map λ_=>none)++σ).length=(nn++X.N).length;simp[I.len]
theorem q88{i:List (ae×aw)}{σ σ':St}{H a:Hp}{s s':af}{h':ao}{scope:ax}{x:List (aq×ae)}{C:ae}{nn:List aq}{fp:List ae}
  (I:Inv X i σ H s) (r:C=s.heap.objs.size) (v:∀b∈fp,gz X i H b) (J:Inv (gP X scope x C nn fp s H) [] σ' a s') (f:Heap.SameBut C s'.heap h'):Inv X i σ a {s' with heap:=h'}:=by
 have g:∀b o,s.heap.get? b=some o->b≠C:=λb o e=>by rw[r];exact Zz (Zl e)
 have B:Un (dO X.stack) fp H a s.heap s'.heap:=J.base;have U:Un (dO X.stack) fp H a s.heap h':=
  ⟨λb o e n hb d=>(f.2 b (g b o e)).trans (B.keep b o e n hb d),λb o e n hb d=>by
   obtain⟨j,q⟩:=B.slot b o e n hb d;exact⟨j,(f.2 b (g b o e)).trans q⟩,B.free,λb o e d=>by
   obtain⟨m,q⟩:=B.there b o e d;exact⟨m,(f.2 b (g b o e)).trans q⟩,B.cC,B.gq,B.gG⟩
 have h:a C=none:=J.free;have K:eV X.prog X.w a h':=λb o e=>(J.aW b o e).fM (λc u w q=>(f.2 c (by
  rintro rfl;rcases w with z|z
  ·rw[z,e]at h;cases h
  ·rw[h]at z;cases z)).trans q) (λ_ q=>q) λ_ _ q=>q
 refine I.xp (s':={s' with heap:=h'}) (ch:=fp) J.os U K J.bare λb hb=>?_;obtain⟨_,h2,_,k,p,l⟩:=v b hb;exact⟨k,h2,p,l⟩
theorem VE{use:Option (aa->Sem Unit)}{QQ:aa->af->Prop}{Q:VK}{A:List (ae×aw)}{s:af}{σ:St}{H:Hp}{nn:List aq}{F:ar}{E:List ar}{B:aA}{f iter:ar}{scope:ax}{wi:TI}{g:TG}{tt:TT}{te:TE}(T:Env->Sem Bool)(hc:X.calm=true)(hi:PI X F iter wi)
  (mB:∀it Z env,compTurn (.ListComp f [⟨F,iter,E,0⟩] scope B) 0 it Z env=(standAt iter.pos >>= λ_=>pyNext it >>= λr=>match r with
   |none=>pure (.done .next)
   |some v=>letOwnedTupleGo F it v >>= λ_=>assign F env v >>= λ_=>T env >>= λok=>(if ok=true then(eval f env >>= λx=>call (.builtin "list.append") [Z,x] >>= λ_=>pure ())else pure ()) >>= λ_=>
     again (.compLoop (.ListComp f [⟨F,iter,E,0⟩] scope B) 0 it Z env)))
  (rE:∀w C d aG aK,PG (gP X scope w C nn d aG aK) F g)
  (mC:∀y (k σ:St) H R,k.length=nn.length->g y (k++σ) H R->g y (k++σ) H λσ' l=>(∃ji:St,ji.length=nn.length/\σ'=ji++σ)/\R σ' l)
  (Er:∀w C d aG aK (A:List (ae×aw)) (s:af) (σ:St) (H:Hp) (Q:Bool->Hp->Prop),Inv (gP X scope w C nn d aG aK) A σ H s->tt σ H Q->ag (aj X.prog X.w) X.A (T (compEnvC scope w C X.env)) (TP (gP X scope w C nn d aG aK) A σ Q) (λ_ _=>False) s)
  (he:∀w C d aG aK,PE (gP X scope w C nn d aG aK) f te)
  (jE:scope.kind=.function) (j9:∀y∈scope.names,y.2≠.cell) (jF:∀y∈scope.names,y.2=.local->scope.names.lookup y.1=some .local)
  (jP:∀y∈X.N,scope.names.lookup y≠some .local) (hfr:∀p∈scope.names,p.2=.free->uB X.env.scope p.1/\X.env.scope.names.lookup p.1≠some .local)
  (hs:∀x,foldedSetIterable iter X.env x=pure x) (I:Inv X A σ H s) (h:uY nn.length wi g tt te σ H Q)
  (fin:∀(D C:ae)(L:Hp)(P:af)(m4:aq->Option aa),gz X A L C->P.heap.Ns C m4->(∀h',Heap.SameBut C P.heap h'->Inv X A σ L {P with heap:=h'})->Q (.ref D) L->compPost (aj X.prog X.w) X.A X.xe use QQ (.ref D) C (.ok Flow.next) P):
  ag (aj X.prog X.w) X.A (comprehension (.ListComp f [⟨F,iter,E,0⟩] scope B) scope X.env (firstIterPos [⟨F,iter,E,0⟩] B) (newList []) false (eval iter X.env) use) QQ X.xe s:=by
 obtain⟨w,E6,kR,ui⟩:=qA7 (scope:=scope) (env:=X.env) (λp hp hk=>by
  obtain⟨hv,hn⟩:=hfr p hp hk;refine I.ok.has p.1 ?_;rcases hv with z|z
  ·exact absurd z hn
  ·exact z)
 refine wpAny_comprehension_free (use:=use) rfl hs E6 jE jF (bC (hi A s σ H _ I h) λv s1 h1=>bC h1 λN7 a h2=>?_);obtain⟨it,d,tn,J,H2,rfl,I2,G,l7,f2,q⟩:=h2;have hD:H2 a.heap.objs.size=none:=I2.aW.fresh (Zg _);obtain⟨W,⟨m0,w0⟩,turn⟩:=q _ hD;refine ZO (wpAny_newFunctionEnv j9 (by intro y hy;simp at hy) (λfk nM nL=>?_) jE);dsimp only at nM nL ⊢;have I3:Inv X A σ (upd H2 a.heap.objs.size (.lst [])) {a with heap:=a.heap.push {cls:=.type "list",dict:=none,data:=.seq ([]:List aa).toArray}}:=
  I2.laid (t':=a.toks) (λb u e=>Zb _ e) (Zg _) ⟨ZU _,[],0,.nil,Zh _ rfl⟩
 have fpn:∀b∈d,b≠a.heap.objs.size:=λb hb=>by
  obtain⟨o,e,_⟩:=G.obj 0 a.heap l7 b hb;exact Zz (Zl e)
 have zS:∀b∈d,b<(a.heap.push {cls:=.type "list",dict:=none,data:=.seq ([]:List aa).toArray}).objs.size:=λb hb=>by
  obtain⟨o,e,_⟩:=G.obj 0 a.heap l7 b hb;rw[Yq];exact Yy (Zl e)
 have f3:∀b∈d,gz X A (upd H2 a.heap.objs.size (.lst [])) b:=λb hb=>⟨by rw[bo (fpn b hb)];exact(f2 b hb).1,(f2 b hb).2⟩;generalize kP:a.heap.push {cls:=.type "list",dict:=none,data:=.seq ([]:List aa).toArray}=K at nM nL I3 zS ⊢;have keep:∀b o,K.get? b=some o->fk.get? b=some o:=λb o e=>(nL.2 b (Zz (Zl e))).trans (Zb _ e);have J0:=qR8 (nn:=nn) (tk:=a.toks+([]:List (aq×aa)).length) I3 (C:=K.objs.size) rfl keep nM f3 zS jE j9 jP kR ui hfr;generalize j:gP X scope w K.objs.size nn d {a with heap:=K} (upd H2 a.heap.objs.size (.lst []))=Y at J0;have eY:PE Y f te:=by rw[<- j];exact he _ _ _ _ _
 have eG:PG Y F g:=by rw[<- j];exact rE _ _ _ _ _
 have eT:∀(A:List (ae×aw))(s:af)(σ:St)(H:Hp)(Q:Bool->Hp->Prop),Inv Y A σ H s->tt σ H Q->ag (aj Y.prog Y.w) Y.A (T Y.env) (TP Y A σ Q) Y.xe s:=by rw[<- j];exact Er _ _ _ _ _
 have eP:Y.prog=X.prog:=by rw[<- j];rfl
 have eW:Y.w=X.w:=by rw[<- j];rfl
 have eK:Y.K=X.K:=by rw[<- j];rfl
 have eA:Y.A=X.A:=by rw[<- j];rfl
 have eC:Y.calm=true:=by rw[<- j];exact hc
 have U:Y.env=compEnvC scope w K.objs.size X.env:=by rw[<- j];rfl
 have eX:Y.xe=λ_ _=>False:=by rw[<- j];rfl
 have eN:Y.N=nn++X.N:=by rw[<- j];rfl
 have eEx:Y.ex=d:=by rw[<- j];rfl
 have eFs:Y.fs=dO X.stack:=by rw[<- j];rfl
 have ePn:Y.pn=[]:=by rw[<- j];rfl
 have Qu:∀{l:Hp},(∀b∈d,l b=none)->∀b∈d,gz Y [] l b:=λhn b hb=>by
  have g:=f3 b hb;refine⟨hn b hb,?_,?_,.inl (by rw[eEx];exact hb),?_,λp hp=>absurd hp (by rw[ePn];simp)⟩
  ·rw[U];exact Zz (zS b hb)
  ·rw[eFs];intro z;rcases ZB.mp (I3.gm b z)with z|z
   ·exact g.2.1 z
   ·exact g.2.2.1 z
  ·rw[U];exact λy c e=>g.2.2.2.2.1 y c (kR y c e)
 have O:∀iy:af,iy={a with heap:=fk,toks:=a.toks+([]:List (aq×aa)).length} ->
   codeAny (aj X.prog X.w) X.A (.compLoop (.ListComp f [⟨F,iter,E,0⟩] scope B) 0 (.ref it) (.ref a.heap.objs.size) (compEnvC scope w K.objs.size X.env))
    (compPost (aj X.prog X.w) X.A X.xe use QQ (.ref a.heap.objs.size) K.objs.size) iy:=by
  rintro iy rfl;refine q87 (T (compEnvC scope w K.objs.size X.env)) (mB _ _ _) (λn s'=>∃i S l k,k.length=nn.length/\Inv Y [] (k++σ) l s'/\tn i s'.heap/\(∀b∈d,l b=none)/\W i n S l) ?_ m0
   ⟨0,[],_,nn.map λ_=>none,by simp,J0,G.keep 0 _ _ l7 (λb hb o e=>keep b o (by rw[<- kP];exact Zb _ e)),λb hb=>(f3 b hb).1,w0⟩
  rintro n s3 ⟨i,S,L,k,kD,I4,sV,Ft,w3⟩;obtain⟨hDx,hlx,alt⟩:=turn i n S L w3;rcases alt with⟨stop,qn⟩|⟨go,step⟩
  ·have D1:=G.done Y eP eW eK eC i [] s3 _ L (λ_ _=>False) I4 (Qu Ft) sV stop;rw[eA]at D1;refine bC D1 λr P ⟨hr,I5⟩=>?_;subst hr;obtain⟨m4,vH,_⟩:=id I5.loc;rw[U]at vH;have hC0:L K.objs.size=none:=by
    have:=I5.free;rw[U]at this;exact this
   rw[<- j]at I5;exact fin _ _ L P m4 (I3.lP (Zg _) hC0) vH (λh' sb=>q88 I3 rfl f3 I5 sb) qn
  ·have G1:=G.item Y eP eW eK eC i [] s3 _ L (λ_ _=>False) I4 (Qu Ft) sV go;rw[eA]at G1;refine bC G1 λr P ⟨u,hr,h4⟩=>?_;subst hr;refine bC h4 λ_ s5 ⟨y,H5,I5,r5,y5,xF,Qs⟩=>?_;have Q7:=I5.pinned (Qu Qs) (G.obj _ _ xF);have S1:=eG _ s5 _ H5 y u _ Q7 r5 (mC y k σ H5 _ kD (step y _ y5 k kD));rw[eP,eW,eA,U,eX]at S1;refine bC S1 λ_ s6 ⟨Ru,H6,I6,⟨Y_,OP,e6⟩,q6⟩=>?_;subst e6;have S2:=eT _ s6 _ _ _ I6 q6;rw[eP,eW,eA,U,eX]at S2;refine bC S2 λok s7 ⟨H7,I7,q7⟩=>?_;have M:∀{s9:af}{N:Hp}{m':Nat}{zs:List V},Inv Y ([]++Dd d s5.heap) (Y_++σ) N s9->m'<n->W (i+1) m' zs N->∃m,m<n/\∃i S l k,k.length=nn.length/\Inv Y [] (k++σ) l s9/\tn i s9.heap/\(∀b∈d,l b=none)/\W i m S l:=λ{s9 N m' zs} I9 eU w9=>by
    have pin:∀b∈d,∀ob,s5.heap.get? b=some ob->s9.heap.get? b=some ob/\N b=none:=λb hb ob e=>by
     have z:=I9.pin (b,ob) (Z1 _ (Z1 _ (Ic hb e)));exact⟨z.1,z.2.1⟩
    refine⟨m',eU,i+1,zs,N,Y_,OP,I9.fh,G.keep _ _ _ xF (λb hb ob e=>(pin b hb ob e).1),λb hb=>?_,w9⟩;obtain⟨ob,e,_⟩:=G.obj _ _ xF b hb;exact(pin b hb ob e).2
   cases ok with
   |true=>
    rw[Zr rfl]at q7;rw[Zr rfl];have S3:=eY _ s7 _ _ _ I7 q7;rw[eP,eW,eA,U,eX]at S3;refine bC S3 λxv s8 ⟨v8,H8,I8,r8,JB,m',eU,w8⟩=>?_;have S4:=tP (X:=Y) _ s8 _ H8 (.ref a.heap.objs.size) [v8] (.ref a.heap.objs.size) [xv] (λ_ N=>N=upd H8 a.heap.objs.size (.lst (S++[v8]))) I8 rfl (.cons r8 .nil) ⟨_,S,v8,rfl,rfl,JB,hlx,rfl⟩;rw[eP,eW,eA,eX]at S4;refine bC S4 λ_ s9 ⟨v9,N,I9,_,e9⟩=>?_;subst e9;exact M I9 eU w8
   |false=>
    rw[Zi ZG]at q7;rw[Zi ZG];obtain⟨m',eU,w8⟩:=q7;exact M I7 eU w8
 exact codeAny_compStart_list (O _ rfl) (G.self _ 0 _ _ _ (G.keep 0 _ _ l7 (λb hb o e=>keep b o (by rw[<- kP];exact Zb _ e))) (O _ rfl))
theorem MM{nn:List aq}{d:ar}{f:List ar}{j:aA}{a iter:ar}{scope:ax}{G:TI}{g:TG}{E:TT}{te:TE}(T:Env->Sem Bool)(hc:X.calm=true)(hi:PI X d iter G)
  (J:∀w e b,compTurn (.ListComp a [⟨d,iter,f,0⟩] scope j) 0 w e b=(standAt iter.pos >>= λ_=>pyNext w >>= λr=>match r with
   |none=>pure (.done .next)
   |some v=>letOwnedTupleGo d w v >>= λ_=>assign d b v >>= λ_=>T b >>= λok=>(if ok=true then(eval a b >>= λx=>call (.builtin "list.append") [e,x] >>= λ_=>pure ())else pure ()) >>= λ_=>
     again (.compLoop (.ListComp a [⟨d,iter,f,0⟩] scope j) 0 w e b)))
  (rE:∀i C k m l,PG (gP X scope i C nn k m l) d g)
  (mC:∀y (B c:St) H R,B.length=nn.length->g y (B++c) H R->g y (B++c) H λu M=>(∃F:St,F.length=nn.length/\u=F++c)/\R u M)
  (K:∀i C k m l (A:List (ae×aw)) (s:af) (c:St) (H:Hp) (Q:Bool->Hp->Prop),Inv (gP X scope i C nn k m l) A c H s->E c H Q->ag (aj X.prog X.w) X.A (T (compEnvC scope i C X.env)) (TP (gP X scope i C nn k m l) A c Q) (λ_ _=>False) s)
  (W:∀i C k m l,PE (gP X scope i C nn k m l) a te)
  (Z:scope.kind=.function) (L:∀y∈scope.names,y.2≠.cell) (O:∀y∈scope.names,y.2=.local->scope.names.lookup y.1=some .local)
  (jP:∀y∈X.N,scope.names.lookup y≠some .local) (hfr:∀p∈scope.names,p.2=.free->uB X.env.scope p.1/\X.env.scope.names.lookup p.1≠some .local)
  (hs:∀x,foldedSetIterable iter X.env x=pure x):PE X (.ListComp a [⟨d,iter,f,0⟩] scope j) (uY nn.length G g E te):=by
 intro A s c H Q I h;rw[eval_ListComp];exact VE (use:=none) T hc hi J rE mC K W Z L O jP hfr hs I h λD C Y s4 V _ U P q=>⟨V,U,λS N=>⟨.ref _,Y,P S N,rfl,q⟩⟩
theorem HR{scope a:ax}{N:List aq}(j:X.N=N)(d:X.env.scope=a)
  (h:scope.names.all (λy=>y.2 != .cell)=true) (c:scope.names.all (λy=>y.2 != .local||scope.names.lookup y.1==some .local)=true) (i:N.all (λy=>scope.names.lookup y != some .local)=true)
  (hfr:scope.names.all (λp=>p.2 != .free||(a.names.lookup p.1==some .cell||a.names.lookup p.1==some .free))=true):
  (∀y∈scope.names,y.2≠.cell)/\(∀y∈scope.names,y.2=.local->scope.names.lookup y.1=some .local)/\(∀y∈X.N,scope.names.lookup y≠some .local)/\(∀p∈scope.names,p.2=.free->uB X.env.scope p.1/\X.env.scope.names.lookup p.1≠some .local):=by
 refine⟨λy b=>?_,λy b g=>?_,λy b=>?_,λp e f=>?_⟩
 ·have:=Y8.mp h y b;simpa using this
 ·have:=Y8.mp c y b;simpa[g]using this
 ·have:=Y8.mp i y (by rw[<- j];exact b);simpa using this
 ·have:=Y8.mp hfr p e;rw[f]at this;have z:a.names.lookup p.1=some .cell\/a.names.lookup p.1=some .free:=by simpa using this
  rw[d];refine⟨.inr z,λq=>?_⟩;rcases z with z|z<;>(rw[z]at q;cases q)
theorem zg{y:V}{b σ:St}{H:Hp}{R:St->Hp->Prop}(d:b.length=1)(h:eZ 0 y (b++σ) H R):eZ 0 y (b++σ) H λa e=>(∃c:St,c.length=1/\a=c++σ)/\R a e:=by
 match b,d with
 |[o],_=>exact⟨⟨[some y],rfl,rfl⟩,h⟩
theorem NS{K:PySem.W.Frag}{y:V}{c σ:St}{H:Hp}{R:St->Hp->Prop}(k:c.length=2)(h:pI K 2 (qB (eZ 0) (qB (eZ 1) pJ)) y (c++σ) H R):
  pI K 2 (qB (eZ 0) (qB (eZ 1) pJ)) y (c++σ) H λb i=>(∃e:St,e.length=2/\b=e++σ)/\R b i:=by
 obtain⟨x,w,rfl⟩:=L2.I_ k
 ·
  obtain⟨a,m,l,f,p,v,r,g,d,s,u,j,q⟩:=h;exact⟨a,m,l,f,p,v,r,g,d,s,u,j,⟨[some v,some d],rfl,rfl⟩,q⟩
theorem q89{x:aq}{v j:aA}{e iter c:ar}{scope:ax}{w:TI}{q:TT}{te:TE}(N:List aq)(k:ax)(P:X.N=N)(T:X.env.scope=k)(hc:X.calm=true)(B:X.N.Nodup)(S:PI X (.Name x v) iter w)
  (U:∀f C b g d,PT (gP X scope f C [x] b g d) c q) (J:∀f C b g d,PE (gP X scope f C [x] b g d) e te)
  (M:scope.kind=.function:=by rfl) (D:scope.names.all (λy=>y.2 != .cell)=true:=by decide +kernel) (E:scope.names.all (λy=>y.2 != .local||scope.names.lookup y.1==some .local)=true:=by decide +kernel)
  (u:scope.names.lookup x=some .local:=by rfl) (V:N.all (λy=>scope.names.lookup y != some .local)=true:=by decide +kernel)
  (hfr:scope.names.all (λp=>p.2 != .free||(k.names.lookup p.1==some .cell||k.names.lookup p.1==some .free))=true:=by decide +kernel)
  (hs:∀x,foldedSetIterable iter X.env x=pure x:=by intro _;rfl):PE X (.ListComp e [⟨.Name x v,iter,[c],0⟩] scope j) (uY 1 w (eZ 0) q te):=by
 obtain⟨K,W,A,L⟩:=HR P T D E V hfr;refine MM (nn:=[x]) (λa=>isTrue c a (eval c a)) hc S (λO m a=>xk7 e _ iter c scope j O m a) (λf C b g d=>?_) (λy Y r H R F h=>zg F h) (λf C b g d G s r H Q I h=>U f C b g d G s r H Q I h) J M K W A L hs;have l:(gP X scope f C [x] b g d).env.scope.names.lookup x=some .local:=Xl u;exact AJ (i:=0) (YJ.mpr ⟨λz=>A x z u,B⟩) rfl (.inl l) (.inr l)
theorem xO0{x y:aq}{m h j:aA}{k:Nat}{scope:ax}{a:List (aq×ae)}{C:ae}{fp:List ae}{aG:af}{aK:Hp}(hc:X.calm=true)(g:X.N.Nodup)(l:x≠y)(e:∀z∈X.N,scope.names.lookup z≠some .local)(c:scope.names.lookup x=some .local)(d:scope.names.lookup y=some .local):
  PG (gP X scope a C [x,y] fp aG aK) (.Tuple [.Name x m,.Name y h] k j) (pI X.K 2 (qB (eZ 0) (qB (eZ 1) pJ))):=by
 have b:(gP X scope a C [x,y] fp aG aK).env.scope.names.lookup x=some .local:=Xl c;have f:(gP X scope a C [x,y] fp aG aK).env.scope.names.lookup y=some .local:=Xl d;have nd:(gP X scope a C [x,y] fp aG aK).N.Nodup:=YJ.mpr ⟨λz=>by
  rcases ZB.mp z with z|z
  ·exact l z
  ·exact e x z c,YJ.mpr ⟨λz=>e y z d,g⟩⟩
 exact pR (X:=gP X scope a C [x,y] fp aG aK) hc (e_ (AJ (i:=0) nd rfl (.inl b) (.inr b)) (e_ (AJ (i:=1) nd rfl (.inl f) (.inr f)) oz))
def yp:TT:=λ_ H Q=>Q true H
theorem MK{x y:aq}{m r l b:aA}{k:Nat}{a iter:ar}{scope:ax}{q:TI}{te:TE}(N:List aq)(c:ax)(O:X.N=N)(T:X.env.scope=c)(hc:X.calm=true)(v:X.N.Nodup)(S:PI X (.Tuple [.Name x m,.Name y r] k l) iter q)
  (F:∀i C d j e,PE (gP X scope i C [x,y] d j e) a te) (P:x≠y:=by decide)
  (L:scope.kind=.function:=by rfl) (A:scope.names.all (λy=>y.2 != .cell)=true:=by decide +kernel) (D:scope.names.all (λy=>y.2 != .local||scope.names.lookup y.1==some .local)=true:=by decide +kernel)
  (G:scope.names.lookup x=some .local:=by rfl) (V:scope.names.lookup y=some .local:=by rfl) (B:N.all (λy=>scope.names.lookup y != some .local)=true:=by decide +kernel)
  (hfr:scope.names.all (λp=>p.2 != .free||(c.names.lookup p.1==some .cell||c.names.lookup p.1==some .free))=true:=by decide +kernel)
  (hs:∀x,foldedSetIterable iter X.env x=pure x:=by intro _;rfl):PE X (.ListComp a [⟨.Tuple [.Name x m,.Name y r] k l,iter,[],0⟩] scope b) (uY 2 q (pI X.K 2 (qB (eZ 0) (qB (eZ 1) pJ))) yp te):=by
 obtain⟨J,U,u,K⟩:=HR O T A D B hfr;exact MM (nn:=[x,y]) (λ_=>pure true) hc S (λM f g=>Ml a _ iter scope b M f g) (λi C d j e=>xO0 hc v P u G V) (λy Y w H R E h=>NS E h) (λi C d j e W s w H Q I h=>Zc ⟨H,I,h⟩) F L J U u K hs
end
end L2
namespace L2
open PySem PySem.Spec PyProof.Rows PySem.W PySem.Builtin PySem.Builtin.ObjectAttr PySem.Builtin.Getset_descriptor
section
variable{K:Frag}{x C:ae}
def ExcAt(x C:ae)(h:ao):Prop:=∃a b,h.get? x=some a/\a.cls=.ref C/\a.data=.fields b/\b[2]?=some .none
theorem ExcAt.type{M:Model}{h:ao}(I:ExcAt x C h):Looks M h (typeOf (.ref x)) (.ref C):=by
 obtain⟨b,_,h1,h2,_⟩:=I;have z:=(Looks.ld (M:=M) (part:=none) h1).andThen (f:=λo=>pure o.cls) (Looks.now (a:=b.cls));rw[h2]at z;exact z
theorem xy0{tp:aa}{R:Result->af->Prop}(X:K.In s.heap)(I:ExcAt x C s.heap)(a:mroIn K C (.type "object")=some true)(h:R (.ok (.ret (.ref C))) s):
  codeAny (aj prog w) A (.call (.builtin "getset_descriptor.__get__") ⟨[.builtin "object.__class__",.ref x,tp],[]⟩) R s:=by
 obtain⟨h1,b,d,c,g⟩:=s;have e:=I.type (M:=aj prog w);have f:=looks_mroIn (M:=aj prog w) X a;refine Wb KF.slot_gs.plain KF.entry_gs ?_;refine KF.slot_gs.check _ _ _ _ _ _ _ _ KF.type_class (KF.args_gs _ _ _) ?_;unfold Builtin.«getset_descriptor.__get__» descrGet;rw[dga_obj];refine Za (Zc ?_);unfold descrGetter descrCheckInstance descrNameAndClass isInstance;simp only[KF.owner_class]
 repeat lk
 refine⟨W6 _ (by decide +kernel),Xh KF.entry_class ?_⟩;unfold Builtin.«object.__class__» shownTypeOf
 repeat lk
 exact h
theorem q90{tk:Tok}{Q:Fin->af->Prop}(X:K.In s.heap)(I:ExcAt x C s.heap)
  (p:findIn K (.ref C) "__class__"=some (some (.builtin "object.__class__"))) (k:specialIn K (.builtin "object.__class__") "__get__"=some (some (.builtin "getset_descriptor.__get__"))) (m:takesIn K (.builtin "object.__class__")=some true)
  (b:mroIn K C (.type "object")=some true) (hc:(clsIn K C).isSome=true) (h:Q (.done (.ret (.ref C))) s):ag (aj prog w) A (Builtin.«object.__getattribute__» ⟨[.ref x,.str "__class__" tk],[]⟩) Q E s:=by
 obtain⟨a,g,d,t,q⟩:=s;have j:=I.type (M:=aj prog w);have e:Looks (aj prog w) a (Builtin.ObjectAttr.find (.ref x) (.ref C) "__class__") (Builtin.ObjectAttr.Found.bind (.builtin "getset_descriptor.__get__") (.builtin "object.__class__")):=by
  have c:=looks_findIn (M:=aj prog w) X p;have i:Looks (aj prog w) a (Builtin.ObjectAttr.getOf (some (.builtin "object.__class__"))) (some (.builtin "getset_descriptor.__get__")):=looks_specialIn X k;have f:=looks_takesIn (M:=aj prog w) X m;have l:Looks (aj prog w) a (Builtin.ObjectAttr.dataDescriptor? (some (.builtin "object.__class__")) (some (.builtin "getset_descriptor.__get__"))) (some (.builtin "getset_descriptor.__get__",.builtin "object.__class__")):=f.andThen .now;exact c.andThen (i.andThen (l.andThen (Looks.tag .now)))
 unfold Builtin.«object.__getattribute__»
 repeat (first|with_reducible refine j.at ?_|with_reducible refine e.at ?_|wp_step)
 refine xy0 X I b ?_
 repeat (any_goals (first|assumption|wp_step))
theorem q91{M:Model}{b:aa}{P:Unit->af->Prop}(X:K.In s.heap)(I:ExcAt x C s.heap)(hb:mroIn K C (.type "BaseException")=some true)(h:P () s):
  ag M A (checkBuiltinCall "BaseException.__getattribute__" ⟨[.ref x,b],[]⟩) P E s:=by
 have f:builtinKind "BaseException.__getattribute__"=some .slot:=by decide +kernel
 have i:splitId "BaseException.__getattribute__"=some ("BaseException","__getattribute__"):=by decide +kernel
 have a:=F.args_bexc_ga (.ref x) b;obtain⟨j,g,d,t,k⟩:=s;have e:=I.type (M:=M);have c:=looks_mroIn (M:=M) X hb;simp only[checkBuiltinCall,f,i];refine Za ?_;unfold isInstance;refine Za (e.at (c.at ?_))
 repeat (first|assumption|wp_step)
theorem xk8{tk:Tok}{R:Result->af->Prop}(X:K.In s.heap)(I:ExcAt x C s.heap)
  (d:findIn K (.ref C) "__class__"=some (some (.builtin "object.__class__"))) (b:specialIn K (.builtin "object.__class__") "__get__"=some (some (.builtin "getset_descriptor.__get__"))) (c:takesIn K (.builtin "object.__class__")=some true)
  (a:mroIn K C (.type "object")=some true) (hb:mroIn K C (.type "BaseException")=some true) (hc:(clsIn K C).isSome=true) (h:R (.ok (.ret (.ref C))) s):
  codeAny (aj prog w) A (.call (.builtin "BaseException.__getattribute__") ⟨[.ref x,.str "__class__" tk],[]⟩) R s:=
 Wb F.excAttr_ValueError.ga.plain F.entry_bexc_ga (q91 X I hb (q90 X I d b c a hc h))
theorem q92{Q:Option aa->af->Prop}(X:K.In s.heap)(I:ExcAt x C s.heap)(f:findIn K (.ref C) "__getattribute__"=some (some (.builtin "BaseException.__getattribute__")))(j:findIn K (.ref C) "__getattr__"=some none)
  (q:findIn K (.ref C) "__class__"=some (some (.builtin "object.__class__"))) (k:specialIn K (.builtin "object.__class__") "__get__"=some (some (.builtin "getset_descriptor.__get__"))) (l:takesIn K (.builtin "object.__class__")=some true)
  (b:mroIn K C (.type "object")=some true) (hb:mroIn K C (.type "BaseException")=some true) (hc:(clsIn K C).isSome=true) (h:Q (some (.ref C)) {s with toks:=s.toks+1}):
  ag (aj prog w) A (getAttr? (.ref x) "__class__") Q E s:=by
 have go:=λ(m:au) (R:Result->af->Prop) (tk:Tok)=>xk8 (prog:=prog) (w:=w) (A:=m) (R:=R) (s:={s with toks:=s.toks+1}) (tk:=tk) X I q k l b hb hc;obtain⟨r,g,d,t,u⟩:=s;have a:=I.type (M:=aj prog w);have e:=looks_findIn (M:=aj prog w) X f;have c:=looks_findIn (M:=aj prog w) X j;have v:=F.excAttr_ValueError.ga.bind (.ref x);have i:(Value.builtin "BaseException.__getattribute__"== Value.builtin "object.__getattribute__")=false:=by decide +kernel
 have p:(onTheHeap (Value.ref C)&&Value.builtin "BaseException.__getattribute__"== Value.builtin "object.__getattribute__")=false:=by rw[i];rfl
 unfold getAttr? getAttrBy? getAttrBy;refine Za (wpAny_mkText (Za (XJ (ZK (Za (a.at (Za (e.at ?_))))))));dsimp only;rw[Zi (by rw[p];exact ZG)];unfold getAttrByItsOwn
 repeat (any_goals (first|assumption|with_reducible refine a.at ?_|with_reducible refine c.at ?_|wp_step))
 refine go _ _ _ ?_
 repeat (any_goals (first|assumption|wp_step))
structure fy(K:Frag)(C:ae):Prop where
 EZ:findIn K (.ref C) "__getattribute__"=some (some (.builtin "BaseException.__getattribute__"))
 rE:findIn K (.ref C) "__getattr__"=some none
 ha:findIn K (.ref C) "__class__"=some (some (.builtin "object.__class__"))
 hn:specialIn K (.builtin "object.__class__") "__get__"=some (some (.builtin "getset_descriptor.__get__"))
 lN:takesIn K (.builtin "object.__class__")=some true
 hm:mroIn K C (.type "object")=some true
 hb:mroIn K C (.type "BaseException")=some true
 hc:(clsIn K C).isSome=true
theorem Uh(T:fy K C):KitX K (.ref x) (.ref C) (ExcAt x C) where
 ty:=λ_ _ _ I=>I.type
 it:=λ_ _ X _=>by
  have a:=T.hc;unfold clsIn at a;split at a
  ·rename_i f d c l b;intro u p D y m g;unfold isType loadHead;refine Za (wpAny_loadPart (m _ _ (X _ _ b)) ?_);exact Zc g
  ·cases a
 ne:=λh j B r n v X i=>by
  have a:=T.hc;refine Vg.mpr λq=>?_;have e:C=j:=Value.ref.inj (XY.mp q);subst e;unfold clsIn at a;split at a
  ·rename_i f d c l b;have z:=(X _ _ b).symm.trans i;cases z
  ·cases a
 ca:=λX I k=>q92 X I T.EZ T.rE T.ha T.hn T.lN T.hm T.hb T.hc k
end
end L2
namespace L2
open PySem PySem.Spec PyProof.Rows PySem.W
section
variable{K:Frag}{h:ao}{C:ae}{bmB:List aa}{newId:String}
theorem xH8(X:K.In h)(q:excIn K C bmB newId=true):∃k N nm u bs v T a J b d G k1 k2 k3 k5 p,
  h.get? C=some (excClassObj nm u C N bs k v T a J b d G k1 k2 k3 k5 newId)/\h.Ns N p/\p "__init__"=none/\OwnTail h bmB k:=by
 unfold excIn at q;split at q
 ·rename_i d U A H;split at q
  ·rename_i Z P s r g f W i m x;simp only[YB,XY,Bool.not_eq_true']at q;obtain⟨⟨⟨⟨⟨y,O⟩,e⟩,I⟩,c⟩,j⟩:=q;subst y O;obtain⟨L,w,a3,V,D,Y,R,M,E,B,Q⟩:=U;dsimp only at m e c j;subst m e;obtain⟨l⟩:=A;have S:l=[s,r,g,f,some (.builtin W),i]:=x;subst S;have F:=isNs_of_in X c;exact⟨P,V,L,D,w,Y,R,M,E,B,d,s,r,g,f,i,_,X _ _ H,.of_isNs F,nsMap_none_of_in X c j,tail_of_in X I⟩
  ·cases q
 ·cases q
end
abbrev FI:List aa:=[.type "ValueError",.type "Exception",.type "BaseException",.type "object"]
section
variable{X:Cx}{x:aq}{C:ae}{E:XK}{uv:ar}{rest:List ar}{t:TA}{np dU pos:aA}
def xH9(cls:aa)(E:XK)(t:TA):TS:=λ_ c H=>t c H λa b=>a.length<=sizeLine/\E cls none b
theorem Ug(m:Gl X x)(g:X.mg x=some (.ref C))(B:excIn X.K C FI "ValueError.__new__"=true)(hc:X.calm=true)(u:R4 X E)(O:PA X (uv::rest) t)(i:(x==("__debug__":aq))=false:=by decide)
  (f:starEach (uv::rest) X.env=(false,eval uv X.env)::starEach rest X.env:=by rfl) (K:(backTo dU (starEach rest X.env)).any (·.1)=false:=by rfl):
  PS X (.Raise (some (.Call (.Name x np) (uv::rest) [] dU)) none pos) (xH9 (.ref C) E t):=by
 intro d s b H D I h;obtain⟨bm,N,nm,j,bs,p,sn,sub,ab,col,dd,k0,k1,k2,k3,k5,mN,A,k,G,T⟩:=xH8 I.ok.mod.wx B;refine wpAny_Raise_call_subU (C:=C) (nm:=nm) (q:=j) (N:=N) (bs:=bs) (bm:=bm) (hdct:=p) (sn:=sn) (sub:=sub) (ab:=ab) (col:=col) (dd:=dd) (k0:=k0) (k1:=k1) (k2:=k2) (k3:=k3) (k5:=k5) (mN:=mN)
  F.excBase_ValueError 'c' F.excBase_ValueError (T.hasType F.excBase_ValueError.hasBase) (I.ok.hd hc) (by rw[f];show(false||(backTo dU (starEach rest X.env)).any (·.1))=false;rw[K];rfl) G (ye I m g ⟨rfl,?_⟩ i)
 have c:=O dU d s b H _ I h;rw[f]at c ⊢;refine Calls.evalArgs_plain (Yz c (λQ M ⟨P,w,a,r,J,L⟩=>?_) λ_ _ y=>y);exact⟨rfl,by rw[<- r.length];exact J,a.bk _ _ A,k.keeps a.bk,T.keeps a.bk,λv e l=>u d b w M v e _ _ a l L⟩
end
section
variable{X:Cx}{j4:List (ae×aw)}{σ:St}{H:Hp}{s:af}
def A9(X:Cx)(j4:List (ae×aw))(E:XK):Cx:={X with
 pn:=X.pn++j4
 xe:=λe d=>∃(x:ae)(cls:aa)(B:ao)(a:Hp)(c:St),e=.ref x/\Inv X j4 c a d/\Over B X.stack x cls .none d.heap /\
  (∀b o,X.aG.heap.get? b=some o->b∉dO X.stack->∃ob,B.get? b=some ob)/\(∀b o,a b=some o->∃ob,B.get? b=some ob)/\(∀p∈X.pn++j4,∃ob,B.get? p.1=some ob)/\a x=none/\E cls none a}
def Bt(X:Cx)(x:ae):Cx:={X with A:=X.A.mark (some (.ref x)),calm:=false,xe:=λ_ _=>False}
theorem Inv.BQ(I:Inv X j4 σ H s)(E:XK):Inv (A9 X j4 E) [] σ H s:=
 ⟨⟨I.ok.mod,I.ok.kind,I.ok.glob,I.ok.blt,I.ok.above,I.ok.inj,I.ok.has,I.ok.uA,I.ok.hd,I.ok.frames,I.ok.sU,I.ok.Bx,I.ok.bs,I.ok.oU,I.ok.lJ,I.ok.mE,I.ok.dS,I.ok.pY⟩,I.os,I.bare,I.base,I.loc,I.cell,I.free,I.cT,
  λp a=>I.pin p (by simpa[A9]using a),I.aW,I.len⟩
theorem Inv.iu{E:XK}{a:List (ae×aw)}(I:Inv (A9 X j4 E) a σ H s):Inv X j4 σ H s:=
 ⟨⟨I.ok.mod,I.ok.kind,I.ok.glob,I.ok.blt,I.ok.above,I.ok.inj,I.ok.has,I.ok.uA,I.ok.hd,I.ok.frames,I.ok.sU,I.ok.Bx,I.ok.bs,I.ok.oU,I.ok.lJ,I.ok.mE,I.ok.dS,I.ok.pY⟩,I.os,I.bare,I.base,I.loc,I.cell,I.free,I.cT,
  λp b=>I.pin p (YO _ b),I.aW,I.len⟩
theorem Inv.Hg(I:Inv X j4 σ H s)(x:ae):Inv (Bt X x) j4 σ H s:=
 ⟨⟨I.ok.mod,I.ok.kind,I.ok.glob,I.ok.blt,I.ok.above,I.ok.inj,I.ok.has,I.ok.uA,λz=>Bool.noConfusion z,I.ok.frames,I.ok.sU,I.ok.Bx,I.ok.bs,I.ok.oU,I.ok.lJ,I.ok.mE,I.ok.dS,I.ok.pY⟩,I.os,I.bare,I.base,I.loc,I.cell,I.free,I.cT,I.pin,I.aW,I.len⟩
theorem Inv.ofH{x:ae}(hA:X.calm=true->X.A.handled=none)(I:Inv (Bt X x) j4 σ H s):Inv X j4 σ H s:=
 ⟨⟨I.ok.mod,I.ok.kind,I.ok.glob,I.ok.blt,I.ok.above,I.ok.inj,I.ok.has,I.ok.uA,hA,I.ok.frames,I.ok.sU,I.ok.Bx,I.ok.bs,I.ok.oU,I.ok.lJ,I.ok.mE,I.ok.dS,I.ok.pY⟩,I.os,I.bare,I.base,I.loc,I.cell,I.free,I.cT,I.pin,I.aW,I.len⟩
theorem xy1{E:XK}(k:X.ex=[]):tH (fc X.prog X.w) (A9 X j4 E) E:=by
 intro v σ H s e l I h;obtain⟨x,a,d,rfl,m,hb,⟨B,U,A,i,f,F,D⟩,G⟩:=h;have C:Inv (A9 X j4 E) v σ d l:=I.xp m U A hb (λb z=>absurd z 'b');have c:∀b,b≠X.env.locals->b∉X.fs->b∉dO X.stack:=λb h1 h2 y=>by
  rcases ZB.mp (I.iu.gm b y)with z|z
  ·exact h1 z
  ·exact h2 z
 refine⟨x,a,B,d,σ,rfl,C.iu,i,λb o z hb=>?_,F,λp r=>?_,D,G⟩
 ·obtain⟨q,w⟩:=I.iu.base.there b o z (by rw[k];simp);exact f b q w hb
 ·obtain⟨j,_,g,u,_⟩:=I.iu.pin p r;exact f p.1 p.2 j (c p.1 g u)
theorem Inv.uP{B h2:ao}{tk:Nat}(I:Inv X j4 σ H s)(S:X.ex=[])(R:B.StaysIn s.heap)(D:B.StaysIn h2)(A:s.heap.UpToSlots h2)
  (J:∀b o,X.aG.heap.get? b=some o->b∉dO X.stack->∃ob,B.get? b=some ob) (N:∀b o,H b=some o->∃ob,B.get? b=some ob) (cp:∀p∈X.pn++j4,∃ob,B.get? p.1=some ob):Inv X j4 σ H {s with heap:=h2,toks:=tk}:=by
 have same:∀b ob o,B.get? b=some ob->s.heap.get? b=some o->h2.get? b=some o:=λb ob o M P=>by
  have L:=R b ob M;have g:=D b ob M;rw[P]at L;cases L;exact g
 have E:∀c v,s.heap.IsCell c v->h2.IsCell c v:=λc v ⟨o,e,d⟩=>by
  obtain⟨h,q⟩:=A c o e (λvs z=>by rw[d]at z;cases z);exact⟨_,q,d⟩
 have a:∀b∈dO X.stack,∀o,s.heap.get? b=some o->∃h,h2.get? b=some {o with slots:=h}:=λb hb o e=>by
  obtain⟨_,F,K,d⟩:=I.stack.mem hb;rw[e]at K;cases K;exact A b o e d
 have j:∀b,b∈X.fs->b∈dO X.stack:=λb hb=>by
  rcases I.ok.sU with z|⟨z,_⟩
  ·rw[z];exact hb
  ·rw[z];show b∈(X.env::X.outer).filterMap (·.frame);rw[ZY];split
   ·exact hb
   ·exact Zn _ hb
 have Y:∀b o,X.aG.heap.get? b=some o->b≠X.env.locals:=λb o e=>Zz (ZJ (Zl e) I.ok.above);have w:∀b o,X.aG.heap.get? b=some o->b∉X.fs->b∉dO X.stack:=λb o e h2 x=>by
  rcases ZB.mp (I.gm b x)with z|z
  ·exact Y b o e z
  ·exact h2 z
 have my:∀b:ae,b∉X.ex:=λb=>by rw[S];simp
 refine⟨I.ok,I.os,I.bare,⟨λb o e n hb f=>?_,λb o e n hb f=>?_,I.base.free,λb o e f=>?_,I.base.cC,I.base.gq,I.base.gG⟩,?_,λy c e=>?_,I.free,I.cT,λp G=>?_,λb o e=>?_,I.len⟩
 ·obtain⟨ob,z⟩:=J b o e (w b o e hb);exact same b ob o z (I.base.keep b o e n hb f)
 ·obtain⟨h,q⟩:=I.base.slot b o e n hb f;obtain⟨T,g⟩:=a b (j b hb) _ q;exact⟨T,g⟩
 ·obtain⟨F,q⟩:=I.base.there b o e f;by_cases hb:b∈dO X.stack
  ·obtain⟨h,g⟩:=a b hb F q;exact⟨_,g⟩
  ·obtain⟨ob,z⟩:=J b o e hb;exact⟨ob,D b ob z⟩
 ·obtain⟨m,W,hl⟩:=I.loc;refine⟨m,A.ns W,λi y v h1 h2 x=>?_⟩;obtain⟨u,r,l⟩:=hl i y v h1 h2 x;refine⟨u,r,?_⟩;rcases l with l|⟨k,c,e,z⟩
  ·exact .inl l
  ·exact .inr ⟨k,c,e,E c _ z⟩
 ·obtain⟨v,z⟩:=I.cell y c e;exact⟨v,E c v z⟩
 ·obtain⟨Q,Z,O,U,V⟩:=I.pin p G;obtain⟨ob,z⟩:=cp p G;exact⟨same p.1 ob p.2 z Q,Z,O,U,V⟩
 ·refine(I.aW b o e).fM (λc u hc q=>?_) (λ_ q=>q) λ_ _ q=>q;rcases hc with z|z
  ·obtain⟨ob,C⟩:=N b o e;rw[z]at q ⊢;exact same b ob u C q
  ·obtain⟨ob,C⟩:=N c _ z;exact same c ob u C q
theorem Inv.Ab{x C:ae}{B:ao}(I:Inv X j4 σ H s)(O:X.stack=X.env::X.outer)(hfr:X.env.frame=some X.env.locals)(f:H x=none)(K:Over B X.stack x (.ref C) .none s.heap)
  (R:∀b o,X.aG.heap.get? b=some o->b∉dO X.stack->∃ob,B.get? b=some ob) (W:∀p∈X.pn++j4,∃ob,B.get? p.1=some ob):Inv X j4 σ (upd H x (.ext (ExcAt x C))) s:=by
 obtain⟨fB,A,M,l,D,T,oT,Z,g,J,h,_,i,_⟩:=K;have a:x∉dO X.stack:=λF=>by
  obtain⟨_,o,e,d⟩:=M.mem F;rw[g]at e;cases e;exact d D h
 have P:X.env.locals≠x:=λz=>a (by
  rw[O];show x∈(X.env::X.outer).filterMap (·.frame);rw[ZY,hfr,z];exact Zw)
 have Q:∀b o,X.aG.heap.get? b=some o->b≠x:=λb o e z=>by
  subst z;obtain⟨ob,q⟩:=R b o e a;rw[A]at q;cases q
 refine⟨I.ok,I.os,I.bare,⟨I.base.keep,I.base.slot,λb o e n Y=>?_,I.base.there,λb E e=>?_,λb o u e=>?_,λb U e=>?_⟩,I.loc,I.cell,?_,λy c e=>?_,λp w=>?_,λb o e=>?_,I.len⟩
 ·rw[bo (Q b o e)];exact I.base.free b o e n Y
 ·have z:=I.base.cC b E e;rw[bo (ck z f)];exact z
 ·have z:=I.base.gq b o u e;rw[bo (ck z f)];exact z
 ·obtain⟨m,z⟩:=I.base.gG b U e;exact⟨m,by rw[bo (ck z f)];exact z⟩
 ·rw[bo P];exact I.free
 ·rw[bo (λz=>?_)]
  ·exact I.cT y c e
  ·obtain⟨v,o,q,d⟩:=I.cell y c e;rw[z,g]at q;cases q;rw[h]at d;cases d
 ·obtain⟨L,S,G⟩:=I.pin p w;obtain⟨ob,q⟩:=W p w;refine⟨L,?_,G⟩;rw[bo (λz=>by rw[z,A]at q;cases q)];exact S
 ·by_cases hb:b=x
  ·subst hb;rw[aX]at e;cases e;refine⟨⟨l,D,g,J,h,i⟩,⟨l,g⟩,λh1 h2 ⟨r,j,V,N⟩ k=>⟨r,j,k r V,N⟩⟩
  ·rw[bo hb]at e;exact(I.aW b o e).fM (λc u _ q=>q) (λc q=>by rw[bo (ck q f)];exact q) λc E q=>by rw[bo (ck q f)];exact q
theorem xy2{h:ao}{a:ae}{m b:aq->Option aa}(x:h.Ns a m)(y:h.Ns a b):m=b:=by
 obtain⟨o,k,l,j,g,_,e⟩:=x;obtain⟨p,f,q,c,d,_,i⟩:=y;rw[j]at c;cases c;rw[g]at d;cases d;funext n;rw[<- e n,i n]
theorem Inv.sQ{i:Nat}{n:aq}{h':ao}{m:aq->Option aa}{v:Option aa}{tk:Nat}(I:Inv X j4 σ H s)(E:X.N.Nodup)(B:X.N[i]?=some n)(D:s.heap.Ns X.env.locals m)(O:h'.Ns X.env.locals (λy=>if y=n then v else m y))(f:Heap.SameBut X.env.locals s.heap h'):
  Inv X j4 (σ.set i none) H {s with heap:=h',toks:=tk}:=by
 have h:∀b o,X.aG.heap.get? b=some o->b≠X.env.locals:=λb o e=>Zz (ZJ (Zl e) I.ok.above);have tr:∀b o,H b=some o->b≠X.env.locals:=λb o e z=>by rw[z,I.free]at e;cases e
 refine⟨I.ok,I.os,I.bare,⟨λb o e a c d=>(f.2 b (h b o e)).trans (I.base.keep b o e a c d),λb o e a c d=>?_,I.base.free,λb o e d=>?_,I.base.cC,I.base.gq,I.base.gG⟩,?_,λy c e=>?_,I.free,I.cT,λp M=>?_,λb o e=>?_,by simpa using I.len⟩
 ·obtain⟨K,q⟩:=I.base.slot b o e a c d;exact⟨K,(f.2 b (h b o e)).trans q⟩
 ·obtain⟨L,q⟩:=I.base.there b o e d;exact⟨L,(f.2 b (h b o e)).trans q⟩
 ·obtain⟨T,G,S⟩:=I.loc;refine⟨_,O,λj y w A g R=>?_⟩;have C:j≠i:=λz=>by
   subst z;rw[Xx (by rw[I.len];exact(cx B).1)]at g;cases g
  rw[WL (Z2 C)]at g;obtain⟨u,r,l⟩:=S j y w A g R;refine⟨u,r,?_⟩;have F:y≠n:=λz=>C (MS E A (z▸B));rcases l with⟨k,e⟩|⟨k,c,e,z⟩
  ·refine .inl ⟨k,?_⟩;show(if y=n then v else m y)=some u;rw[Zi F,xy2 D G];exact e
  ·exact .inr ⟨k,c,e,z.sameBut f (I.uy y c e)⟩
 ·obtain⟨w,z⟩:=I.cell y c e;exact⟨w,z.sameBut f (I.uy y c e)⟩
 ·obtain⟨J,P,x,N⟩:=I.pin p M;exact⟨(f.2 p.1 x).trans J,P,x,N⟩
 ·refine(I.aW b o e).fM (λc u Q q=>(f.2 c ?_).trans q) (λ_ q=>q) λ_ _ q=>q;rcases Q with z|z
  ·rw[z];exact tr b o e
  ·exact tr c _ z
def QG(X:Cx)(F:aa)(i:Nat)(th:ae->TS)(D:Ends):XK:=λa _ b=>∃C,a=.ref C/\exmOne X.K a F=some true/\∀x,b x=none ->
 th x {nx:=λσ H=>D.nx (σ.set i none) H,rt:=D.rt,bk:=λσ H=>D.bk (σ.set i none) H,ct:=λσ H=>D.ct (σ.set i none) H} ((List.replicate X.N.length none).set i (some (.ref x))) (upd b x (.ext (ExcAt x C)))
def La(X:Cx)(F:aa)(i:Nat)(tb:XK->TS)(th:ae->TS):TS:=λD σ H=>tb (QG X F i th D) D σ H
theorem xI0{p:List ay}{FH:ay}{uI:List ay}{O n:aq}{np pG T:aA}{FA:ae}{i:Nat}{tb:XK->TS}{th:ae->TS}(kE:X.ex=[])(S:X.stack=X.env::X.outer)(hfr:X.env.frame=some X.env.locals)
  (hN:X.N.Nodup) (hi:X.N[i]?=some n) (hl:X.env.scope.names.lookup n=some .local) (hg:Gl X O) (hm:X.mg O=some (.ref FA)) (hb:∀j4 E,jj (A9 X j4 E) p (tb E)) (hh:∀x,jj (Bt X x) (FH::uI) (th x))
  (hd:(O==("__debug__":aq))=false:=by decide):PS X (.Try p [.ExceptHandler (some (.Name O np)) (some n) (FH::uI) pG] [] [] T) (La X (.ref FA) i tb th):=by
 intro j4 s σ H D I h;have rN:(X.env.scope.kind==.class||(X.env.scope.kind==.module&&X.env.locals != X.env.globals))=false:=by rw[I.ok.kind];rfl
 refine wpAny_Try_except ?_;refine Yz (hb j4 _ [] s σ H D (I.BQ _) h) (λf y R=>?_) (λe y hx=>?_)
 ·cases f with
  |next=>
   obtain⟨a,b,l,q⟩:=R;exact Wj ⟨a,b,l.iu,q⟩
  |brk=>
   obtain⟨a,b,l,q⟩:=R;exact⟨a,b,l.iu,q⟩
  |cont=>
   obtain⟨a,b,l,q⟩:=R;exact⟨a,b,l.iu,q⟩
  |ret u=>
   obtain⟨v,a,b,l,r,q⟩:=R;exact⟨v,a,b,l.iu,r,q⟩
 ·obtain⟨x,cls,B,b,a,rfl,l,FW,c0,c2,cp,Jh,C,rfl,PJ,hth⟩:=hx;have J:=FW;rw[S]at J;have Qt:X.A.frames=some (X.env::X.outer):=by rw[<- S];exact I.ok.frames
  refine US Qt hfr J λh4 L sm4=>?_;refine H_ L λh5 N Z=>?_;have I5:Inv X j4 a b {y with heap:=h5}:=l.uP (tk:=y.toks) kE FW.stays N.stays (sm4.trans Z) c0 c2 cp;obtain⟨ob,W,_,_,_,ho,Jn,yR,_,Y,_⟩:=id N.qJ;refine wpAny_handleBy_cons (codeAny_handlers_test ?_) (by intro q;cases q);refine ye (X:=Bt X x) (I5.Hg x) hg hm ?_ hd;have LT:Looks (aj X.prog X.w) h5 (typeOf (.ref x)) (.ref C):=ExcAt.type ⟨ob,W,ho,Jn,yR,Y⟩;refine(exm_one (M:=aj X.prog X.w) I5.gD LT PJ).here ?_;refine codeAny_handlers_suite_as ?_;refine H_ N λh6 G sm6=>?_;have I6:Inv X j4 a b {y with heap:=h6}:=I5.uP (tk:=y.toks) kE N.stays G.stays sm6 c0 c2 cp;have K:Inv X j4 a (upd b x (.ext (ExcAt x C))) {y with heap:=h6}:=I6.Ab S hfr Jh (by rw[S];exact G) c0 cp;have U:Inv X j4 (List.replicate X.N.length none) (upd b x (.ext (ExcAt x C))) {y with heap:=h6}:=K.weak (by rw[XM,K.len]) (λj v e=>by
   rw[Xu]at e;split at e<;>cases e)
  refine yh (X:=Bt X x) (v:=.ref x) (U.Hg x) hN hi (.inl hl) rfl (λs7 I7=>?_) (.inr hl);refine Yz (hh x j4 s7 _ _ _ I7 (hth x Jh)) (λf s8 Q=>?_) λ_ _ z=>z.elim;have g:∀{w:St}{c:Hp},Inv (Bt X x) j4 w c s8->∀{P:Unit->af->Prop}{E':aa->af->Prop},(∀F,Inv X j4 (w.set i none) c F->P () F) ->
    ag (aj X.prog X.w) X.A (do bindName X.env n .none;unbindBehindTheSuite X.env n pG) P E' s8:=λ{w c} d {P E'} k=>by
   obtain⟨m,hn,_⟩:=id d.loc;refine wpAny_nameGoes_keeps hl hn rN λh9 v hn9 V=>k _ ?_;exact(d.ofH I.ok.hd).sQ hN hi hn hn9 V
  cases f with
  |next=>
   obtain⟨w,c,d,q⟩:=Q;exact g d λF A=>⟨_,c,A,q⟩
  |brk=>
   obtain⟨w,c,d,q⟩:=Q;exact g d λF A=>⟨_,c,A,q⟩
  |cont=>
   obtain⟨w,c,d,q⟩:=Q;exact g d λF A=>⟨_,c,A,q⟩
  |ret u=>
   obtain⟨v,w,c,d,r,q⟩:=Q;exact g d λF A=>⟨v,_,c,A,r,q⟩
end
end L2
namespace L2
open PySem PySem.Spec PyProof.Rows
def Dq(CX:lW)(P:ah)(w:ak)(K:PySem.W.Frag)(mg:aq->Option aa)(base:ao)(N:List aq)(a:aq)(scope:ax)(f:ae)(b:aa)(A:au)(outer:List Env)(s:af)(H:Hp)(E:XK):Cx:=
 {ke CX P w K mg base N a scope f b A outer s H E with calm:=false,xe:=λ_ _=>False}
theorem q10{CX:lW}{P:ah}{w:ak}{K:PySem.W.Frag}{mg:aq->Option aa}{base:ao}{N ps:List aq}{d:aq}{scope:ax}{f:ae}{B:aa}{A:au}{outer:List Env}{s I:af}{H:Hp}{E:XK}{us:List aa}{vs:List V}
  (S:aE N ps scope) (g:lV P w K mg base A outer s H) (R:vs.length=ps.length) (r:Vals vs us)
  (x:InCallC s s.heap.objs.size (bindL (envOfC d scope s.heap.objs.size f B).kindOf (ps.zip us) λ_=>none) (cellsFrom (s.heap.objs.size+1) scope.names []) (bindC (envOfC d scope s.heap.objs.size f B).kindOf (ps.zip us) λ_=>none) I):
  Inv (Dq CX P w K mg base N d scope f B A outer s H E) [] (mX N vs) H I:=by
 have M:ps.length<=N.length:=by have:=Yo List.length S.pre;rw[ZT]at this;lia
 obtain⟨h1,Q,rfl,D⟩:=x.done;have C:∀b:ae,b∉(Dq CX P w K mg base N d scope f B A outer s H E).ex:=λb z=>absurd (show b∈([]:List ae)from z) 'b';refine⟨⟨g.mod,S.kind,rfl,rfl,Zg _,λy z c h1 h2=>?_,λy j=>?_,λy c _ h=>?_,λz=>Bool.noConfusion z,Around.frames_deeper g.frames,.inr ⟨rfl,rfl⟩,λb z=>absurd z (C b),g.bs,g.oU,λb _ _=>C b,λb z=>absurd z (C b),g.dS,g.pY⟩,
  rfl,g.bare,Un.kept D,⟨_,x.toInCall.ns,λi y v h1 h2 O=>?_⟩,λy c h=>⟨_,x.cell y c h⟩,g.aW.fresh (Zg _),λy c h=>?_,λp l=>absurd (show p∈([]:List (ae×aw))from l) 'b',g.aW.kept D,?_⟩
 ·exact name_of_addr x.apart (Yp h1) (Yp h2)
 ·have j:scope.names.lookup y=some .cell\/scope.names.lookup y=some .free:=j;rcases j with j|j
  ·exact HG j
  ·exact absurd rfl (S.qK _ (Yp j))
 ·exact Ys (x.above y c (Yp h))
 ·have m:i<vs.length:=by
   unfold mX at h2;by_cases m:i<vs.length
   ·exact m
   ·rw[Zs (by simpa using m)]at h2;rw[Xu]at h2;split at h2<;>cases h2
  have L:vs[i]?=some v:=by
   unfold mX at h2;rw[Zm (by simpa using m),Zf]at h2;cases e:vs[i]? with
   |none=>rw[e]at h2;cases h2
   |some a=>rw[e]at h2;cases h2;rfl
  obtain⟨u,F,J⟩:=r.get L;have l:ps[i]?=some y:=by
   rw[<- S.pre,List.getElem?_take_of_lt 'a'];exact h1
  have G:ps.Nodup:=by rw[<- S.pre];exact S.nd.sublist (List.take_sublist _ _)
  refine⟨u,J,?_⟩;rcases S.par y (Zo l)with k|k
  ·exact .inl ⟨k,M0 G l F k⟩
  ·obtain⟨c,e⟩:=HG (n:=s.heap.objs.size+1) k;refine .inr ⟨.inl k,c,e,?_⟩;have q:=x.cell y c e;rw[MZ G l F (by show scope.names.lookup y≠_;rw[k];decide)]at q;exact q
 ·exact g.aW.fresh (Ys (x.above y c (Yp h)))
 ·unfold mX;show _=N.length;rw[Zk,Ze,XM];lia
structure gY(k:Nat)(x:ae)(A:au):Prop where
 hd:A.handled=some (.ref x)
 dp:A.depth+3*k+5<recursionLimit
 un:A.units+16*k+200<cLine
theorem aS.Hg{k:Nat}{A:au}(r:aS k A)(x:ae):gY k x (A.mark (some (.ref x))):=⟨rfl,r.dp,r.un⟩
theorem gY.deeper{k:Nat}{x:ae}{A:au}(r:gY (k+1) x A)(env:Env):gY k x (A.deeper env):=
 ⟨r.hd,by have:=r.dp;show A.depth+1+3*k+5<_;lia,by have:=r.un;show A.units+3+16*k+200<_;lia⟩
theorem gY.depth{k:Nat}{x:ae}{A:au}(r:gY k x A):A.depth<recursionLimit:=by have:=r.dp;lia
abbrev Ag:=List V->Hp->VK->Prop
structure ix(P:ah)(w:ak)(K:PySem.W.Frag)(mg:aq->Option aa)(base:ao)(k:Nat)(x:ae)(f:ae)(fd:ai)(ps:List aq)(sp:Ag):Prop where
 len:∀vs H Q,sp vs H Q->vs.length=ps.length
 run:∀(A:au)(outer:List Env)(s:af)(H:Hp)(args:Args)(us:List aa)(vs:List V)(Q:VK),gY k x A->lV P w K mg base A outer s H->BindsTo s fd args (ps.zip us)->Vals vs us->sp vs H Q ->
  codeAny (aj P w) A (.call (.ref f) args) (CR aJ outer P w H s Q E0) s
theorem aP.okH{P:ah}{w:ak}{K:PySem.W.Frag}{mg:aq->Option aa}{base:ao}{x c:aq}{st:ay}{f xe:ae}{D:ai}{N ps:List aq}{k:Nat}{sp:Ag}(F:aP K x c st f D)(S:aE N ps (cg st))(len:∀d H Q,sp d H Q->d.length=ps.length)
  (kC:∀(j:aa)(A:au)(a:List Env)(s:af)(H:Hp)(d:List V)(Q:VK),gY k xe (A.deeper (envOfC c (cg st) s.heap.objs.size f j))->sp d H Q ->
   ∃t,jj (Dq aJ P w K mg base N c (cg st) f j A a s H E0) (oA st) t/\t {nx:=λ_ h=>Q .cA h,rt:=Q} (mX N d) H):ix P w K mg base (k+1) xe f D ps sp:=by
 obtain⟨oc,od,kV,U,pm,an,j,ct,pB,rfl,R,kZ⟩:=F.ex;refine⟨len,λA a s H G us d Q E l hb r L=>?_⟩;have hl:=len _ _ _ L;have O:K.In s.heap:=l.mod.wx.keeps λb o e=>(l.bs b o e).1;have C:s.heap.NoLimit:=l.mod.nolimit.keeps λb o e=>(l.bs b o e).1;have X:∀y∈ps.zip us,(cg st).names.lookup y.1=some .local\/((cg st).names.lookup y.1=some .cell/\((cellsFrom (s.heap.objs.size+1) (cg st).names []).lookup y.1).isSome=true):=λ⟨n,v⟩ hy=>by
  rcases S.par n (WT hy).1 with q|q
  ·exact .inl q
  ·exact .inr ⟨q,Ww _ _ _ (.inl q)⟩
 refine codeAny_call_function E.depth (O _ _ R) rfl S.co S.gen rfl (PySem.W.codeRec_of O kZ) (hb _ _ _ _ ?_);refine wpAny_newFunctionEnv_cells S.kind X λY W M x=>?_;subst W;refine⟨C.keeps x.toInCall.keep,codeAny_func ?_⟩;obtain⟨t,T,Z⟩:=kC j A a s H d Q (E.deeper _) L;have I:Inv (Dq aJ P w K mg base N c (cg st) f j A a s H E0) [] (mX N d) H M:=q10 S l hl r x;refine Yz (T [] M (mX N d) H _ I Z) (λfl B i=>?_) λe B i=>i.elim;have m:∀{g:St}{h:Hp}{v:V}{u:aa},Inv (Dq aJ P w K mg base N c (cg st) f j A a s H E0) [] g h B->RelV v u->Q v h->CE a P w H s Q u B:=
  λ{g h v u} J p q=>⟨v,h,J.os,J.bare,J.base,J.aW,p,q⟩
 cases fl with
 |ret u=>
  obtain⟨v,g,h,J,p,q⟩:=i;exact m J p q
 |next=>
  obtain⟨g,h,J,q⟩:=i;exact m (v:=V.cA) (u:=Value.none) J rfl q
 |brk=>
  obtain⟨_,_,_,q⟩:=i;exact False.elim q
 |cont=>
  obtain⟨_,_,_,q⟩:=i;exact False.elim q
section
variable{X:Cx}{k:Nat}{f xe:ae}{fd:ai}{ps:List aq}{sp:Ag}{x:aq}{p pos:aA}{e:ar}{es:List ar}{t:TA}
def xI1(sp:Ag)(t:TA):TE:=λb H Q=>t b H λc a=>sp c a Q
theorem xk9(F:ix X.prog X.w X.K X.mg X.base k xe f fd ps sp)(m:gY k xe X.A)(l:Gl X x)(g:X.mg x=some (.ref f))(i:PySem.W.keepIn X.K (.ref f)=true)(hb:Binds X.K fd ps [])
  (G:PA X (e::es) t) (J:(x==("__debug__":aq))=false:=by decide) (A:starEach (e::es) X.env=(false,eval e X.env)::starEach es X.env:=by rfl) (v:(backTo pos (starEach es X.env)).any (·.1)=false:=by rfl):
  PE X (.Call (.Name x p) (e::es) [] pos) (xI1 sp t):=by
 intro y s j H Q I h;refine Xa (ye I l g ?_ J);refine Wo (h₀:=X.base) I.ok.mod.wx i (bC (G pos y s j H _ I h) λc d ⟨C,B,b,r,q⟩=>⟨b.gD,?_⟩) A v;have D:c.length=ps.length:=by rw[<- r.length];exact F.len _ _ _ q
 have bt:=hb d c b.gD (by rw[XC];exact D);rw[XC]at bt;refine Vo (Y7 (F.run X.A X.stack d B ⟨c,[]⟩ c C Q m b.zV bt r q) λw K a=>?_);cases w with
 |error e=>exact False.elim a
 |ok E=>
  cases E with
  |ret u=>exact b.after a
  |next=>exact False.elim a
  |brk=>exact False.elim a
  |cont=>exact False.elim a
end
end L2
namespace L2
open PySem PySem.Spec PyProof.Rows PySem.W
section
variable{X:Cx}
def FF:V->Option aa
 |.ty n=>some (.type n)
 |.ref a=>some (.ref a)
 |_=>none
theorem xy3{c:V}{u b:aa}(r:RelV c u)(e:FF c=some b):u=b:=by
 cases c with
 |ty n=>cases e;exact r
 |ref a=>cases e;exact r
 |_=>cases e
def Gm(K:Frag)(H:Hp)(x:V)(t:aa):Prop:=∃a C,x=.ref a/\H a=some (.ext (ExcAt a C))/\fy K C/\t=.ref C
inductive nV(K_:PySem.W.Frag)(xs:List V)(H:Hp)(Q:VK):Prop
 |mk(x:_)(c:_)(t:_)(cv:_)(b:_)(aM:xs=[x,c])(dh:FF c=some cv)(bH:(gX K_ H x t\/Gm K_ H x t))(aF:kitOne K_ t cv=some b)(zX:Q (.bl b) H)
theorem nI:iO X (.builtin "isinstance") (nV X.K):=by
 intro w s l H y A Q I r h;obtain⟨x,c,t,m,b,rfl,g,k,d,q⟩:=h;obtain⟨u,v,rfl,f,i⟩:=G8 r;cases xy3 i g;rcases k with ty|⟨a,C,rfl,e,T,rfl⟩
 ·exact q57 I f ty d λj=>⟨.bl b,H,I.tok _,rfl,q⟩
 ·cases(show u=Value.ref a from f);have p:ExcAt a C s.heap:=(I.aW a _ e).1;exact kia_one (Uh T) I.gD p d (λz=>nomatch z) λj=>⟨.bl b,H,I.tok _,rfl,q⟩
theorem q94{d:List (ae×aw)}{σ:St}{H:Hp}{s s':af}{h:aw}{c:List ae}(I:Inv X d σ H s)(g:Moved c (λa b=>b=a) {s with heap:=s.heap.push h} s')(k:∀b o,s.heap.get? b=some o->b∈c->False):Inv X d σ H s':=by
 obtain⟨h',q,i,t',p⟩:=s';obtain⟨l,m,j,f,r⟩:=g;cases(show q=s.gens from m);cases(show i=s.drawn from j);cases(show p=s.os from f);exact I.kept (h':=h') (t':=t') λb o e=>l b o (λz=>k b o e z) (Zb _ e)
inductive mU(xs:List V)(H:Hp)(Q:VK):Prop
 |mk(p:ae)(bs:List Bool)(aM:xs=[.ref p])(dh:H p=some (.lst (bs.map V.bl)))(bH:Q (.bl (bs.all id)) H)
theorem HQ(hc:X.calm=true):iO X (.builtin "all") mU:=by
 intro P s L H S T Q I r h;obtain⟨p,bs,rfl,E,q⟩:=h;obtain⟨u,rfl,F⟩:=lG r;cases F;obtain⟨z,c,n,f,m⟩:=I.aW p _ E;have y:s.heap.IsList p c.toArray:=⟨_,m,rfl,_,rfl⟩;have g:c.length=bs.length:=by have:=f.length;simpa using this.symm
 have D:p≠s.heap.objs.size:=Zz (Zl m);refine call_all_walk (Xj y ?_);refine⟨s.heap.objs.size,_,_,_,_,_,λi=>bs.getD i true,rfl,Walks.list (A:=X.A.in1) (I.ok.hd hc) s.heap.objs.size p D c.toArray,⟨⟨_,Zh _ rfl,rfl,rfl⟩,y.at λo e=>Zb _ e⟩,?_,?_⟩
 ·intro i v O R N K d;have l:c[i]?=some v:=by simpa using K
  have a:i<bs.length:=by rw[<- g];exact(cx l).1
  obtain⟨M,j,B⟩:=f.get (x:=V.bl (bs[i])) (i:=i) (by simp[a]);rw[l]at j;cases j;cases(show v=Value.bool bs[i]from B);have C:bs.getD i true=bs[i]:=by simp[List.getD,a]
  dsimp only at d;rw[C]at d;exact YT d
 ·intro h' J k;refine⟨.bl (bs.all id),H,I.kept (h':=h') (t':=J) (λb o e=>k b o (λz=>?_) (Zb _ e)),?_,q⟩
  ·have:b=s.heap.objs.size:=by simpa using z
   exact YH _ (by rw[this]at e;exact Zl e)
  ·have G:c.toArray.size=bs.length:=by simpa using g
   rw[G];show Value.bool _=Value.bool _;congr 1;rw[Y2,Y8,Y8];constructor
   ·intro z b hb;obtain⟨i,a,e⟩:=ZM.mp hb;have:=z i (ZX.mpr a);simpa[List.getD,a,e]using this
   ·intro z i a;have w:=ZX.mp a;have:=z bs[i] (YY w);simpa[List.getD,w]using this
inductive mT(xs:List V)(H:Hp)(Q:VK):Prop
 |mk(p:ae)(bs:List Bool)(aM:xs=[.ref p])(dh:H p=some (.lst (bs.map V.bl)))(bH:Q (.bl (bs.any id)) H)
theorem UR(hc:X.calm=true):iO X (.builtin "any") mT:=by
 intro P s L H S T Q I r h;obtain⟨p,bs,rfl,E,q⟩:=h;obtain⟨u,rfl,F⟩:=lG r;cases F;obtain⟨z,c,n,g,w⟩:=I.aW p _ E;have B:s.heap.IsList p c.toArray:=⟨_,w,rfl,_,rfl⟩;have j:c.length=bs.length:=by have:=g.length;simpa using this.symm
 have D:p≠s.heap.objs.size:=Zz (Zl w);refine call_any_walk (Xj B ?_);refine⟨s.heap.objs.size,_,_,_,_,_,λi=>bs.getD i true,rfl,Walks.list (A:=X.A.in1) (I.ok.hd hc) s.heap.objs.size p D c.toArray,⟨⟨_,Zh _ rfl,rfl,rfl⟩,B.at λo e=>Zb _ e⟩,?_,?_⟩
 ·intro i v O R N K f;have m:c[i]?=some v:=by simpa using K
  have a:i<bs.length:=by rw[<- j];exact(cx m).1
  obtain⟨M,l,d⟩:=g.get (x:=V.bl (bs[i])) (i:=i) (by simp[a]);rw[m]at l;cases l;cases(show v=Value.bool bs[i]from d);have C:bs.getD i true=bs[i]:=by simp[List.getD,a]
  dsimp only at f;rw[C]at f;exact YT f
 ·intro h' J k;refine⟨.bl (bs.any id),H,I.kept (h':=h') (t':=J) (λb o e=>k b o (λz=>?_) (Zb _ e)),?_,q⟩
  ·have:b=s.heap.objs.size:=by simpa using z
   exact YH _ (by rw[this]at e;exact Zl e)
  ·have G:c.toArray.size=bs.length:=by simpa using j
   rw[G];show Value.bool _=Value.bool _;congr 1;rw[Y2,Wd,Wd];constructor
   ·rintro⟨i,a,e⟩;have y:=ZX.mp a;refine⟨bs[i],YY y,?_⟩;simpa[List.getD,y]using e
   ·rintro⟨b,hb,e⟩;obtain⟨i,a,d⟩:=ZM.mp hb;refine⟨i,ZX.mpr a,?_⟩;have:bs.getD i true=bs[i]:=by simp[List.getD,a]
    rw[this,d];exact e
def best(a:List Int):Nat->Int
 |0=>a.getD 0 0
 |k+1=>if a.getD (k+1) 0>best a k then a.getD (k+1) 0 else best a k
theorem Ue(a:List Int):∀k,a.getD (argBest (λi j=>decide (a.getD i 0>a.getD j 0)) k) 0=best a k/\argBest (λi j=>decide (a.getD i 0>a.getD j 0)) k<=k
 |0=>⟨rfl,Zg _⟩
 |k+1=>by
  obtain⟨h1,h2⟩:=Ue a k;unfold argBest best;rw[<- h1];by_cases b:a.getD (k+1) 0>a.getD (argBest (λi j=>decide (a.getD i 0>a.getD j 0)) k) 0
  ·rw[Zr (Zq b),Zr b];exact⟨rfl,Zg _⟩
  ·rw[Zi (by simpa using b),Zi b];exact⟨rfl,Nat.le_succ_of_le h2⟩
inductive mL(xs:List V)(H:Hp)(Q:VK):Prop
 |mk(p:ae)(ns:List Int)(aM:xs=[.ref p])(dh:H p=some (.lst (ns.map V.int)))(bH:ns≠[])(aF:Q (.int (best ns (ns.length-1))) H)
theorem UQ(hc:X.calm=true):iO X (.builtin "max") mL:=by
 intro W s S H Z us Q I r h;obtain⟨p,a,rfl,J,O,q⟩:=h;obtain⟨u,rfl,K⟩:=lG r;cases K;obtain⟨z,c,n,l,k⟩:=I.aW p _ J;have C:s.heap.IsList p c.toArray:=⟨_,k,rfl,_,rfl⟩;have m:c.length=a.length:=by have:=l.length;simpa using this.symm
 have G:p≠s.heap.objs.size:=Zz (Zl k);have y:c.toArray.size=a.length:=by simpa using m
 have g:0<a.length:=Xq.mpr O;have item:∀(i:Nat)(v:aa),c.toArray[i]?=some v->∃t,v=.int (a.getD i 0) t:=λi v f=>by
  have B:c[i]?=some v:=by simpa using f
  have d:i<a.length:=by rw[<- m];exact(cx B).1
  obtain⟨T,w,t,D⟩:=l.get (x:=V.int (a[i])) (i:=i) (by simp[d]);rw[B]at w;cases w;exact⟨t,by rw[D];simp[List.getD,d]⟩
 refine call_max_walkS (Xj C ?_);refine⟨s.heap.objs.size,_,_,_,_,_,_,λi j=>decide (a.getD i 0>a.getD j 0),rfl,(Walks.list (A:=X.A.in1) (I.ok.hd hc) s.heap.objs.size p G c.toArray).toS,⟨⟨_,Zh _ rfl,rfl,rfl⟩,C.at λo e=>Zb _ e⟩,?_,by rw[y];exact g,?_,?_⟩
 ·intro b hb;rw[Yq];rcases ZB.mp hb with rfl|hb
  ·exact Yw _
  ·have:b=p:=by simpa using hb
   subst this;exact Yy (Zl k)
 ·intro i j E L F Y U d P N;obtain⟨t,rfl⟩:=item i E d;obtain⟨R,rfl⟩:=item j L P;exact gt_int N
 ·intro v F f M;rw[y]at f;obtain⟨t,rfl⟩:=item _ v f;rw[(Ue a (a.length-1)).1];refine⟨.int _,H,q94 I M (λb o e hb=>?_),⟨t,rfl⟩,q⟩;have:b=s.heap.objs.size:=by simpa using hb
  exact YH _ (by rw[this]at e;exact Zl e)
theorem S8{P:ah}{w:ak}{k:Key}{v:aa}(h:(gc P w).is k v=true):RelV (kV k) v:=by
 rcases sE (show yq k v=true from h)with⟨i,t,rfl,rfl⟩|⟨x,t,rfl,rfl⟩
 ·exact⟨t,rfl⟩
 ·exact⟨t,rfl⟩
theorem IM:∀{b:List V}{a:List aa},b.length=a.length->(∀(i:Nat) x v,b[i]?=some x->a[i]?=some v->RelV x v)->Vals b a
 |[],[],_,_=>.nil
 |[],_::_,h,_=>by simp at h
 |_::_,[],h,_=>by simp at h
 |x::b,u::a,h,f=>.cons (f 0 x u rfl rfl) (IM (by simpa using h) λi y v d c=>f (i+1) y v (by simpa using d) (by simpa using c))
inductive lU(xs:List V)(H:Hp)(Q:VK):Prop
 |mk(d:ae)(kvs:List (Key×V))(aM:xs=[.ref d])(dh:H d=some (.dK kvs))(bH:∀l,H l=none->Q (.ref l) (upd H l (.lst (kvs.map λkv=>kV kv.1))))
theorem q11(hc:X.calm=true):iO X (.type "list") lU:=by
 intro T s R H U V Q I r h;obtain⟨d,kvs,rfl,B,q⟩:=h;obtain⟨u,rfl,G⟩:=lG r;cases G;obtain⟨z,C,j,b,K⟩:=A_ I.aW B;obtain⟨ep,L⟩:=K.dictAt;have A:=b.length;refine kdl_call (kdl_dict (knd:=gc X.prog X.w) (kvs:=j) (ep:=ep) C) (I.ok.hd hc) L (by rw[<- A];exact z) λS O g c N F m=>?_;refine⟨.ref s.heap.objs.size,_,I.laid (a:=s.heap.objs.size) (o:=.lst (kvs.map λe=>kV e.1)) (t':=O) N (Zg _) ⟨by simpa using z,g.toList,c,?_,by simpa using F⟩,rfl,q _ I.fresh⟩;refine IM (by simp[A,m.1]) λi x v w P=>?_;rw[Zf]at w;obtain⟨e,M,rfl⟩:=Zp.mp w;obtain⟨k,y,E,f⟩:=m.2 i v (by simpa using P);have J:j[i]?=some (k,y):=E;have D:e.1=k:=by
  have l:(kvs.map (·.1))[i]?=some e.1:=by rw[Zf,M];rfl
  have p:(j.map (·.1))[i]?=some k:=by rw[Zf,J];rfl
  rw[b.keys]at l;rw[l]at p;exact Zu p
 rw[D];exact S8 f
inductive i7(xs:List V)(H:Hp)(Q:VK):Prop
 |mk(n:Int)(aM:xs=[.int n])(dh:∀r,H r=none->Q (.ref r) (upd H r (.tE 0 n)))
theorem Tw:iO X (.type "range") i7:=by
 intro g s d H f c Q I r h;obtain⟨n,rfl,q⟩:=h;obtain⟨u,rfl,t,rfl⟩:=lG r;exact call_range_1 ⟨.ref s.heap.objs.size,_,I.laid (a:=s.heap.objs.size) (o:=.tE 0 n) (λb o e=>Zb _ e) (Zg _) ⟨_,_,_,Zh _ rfl⟩,rfl,q _ I.fresh⟩
inductive lT(xs:List V)(H:Hp)(Q:VK):Prop
 |mk(r:ae)(n:Nat)(aM:xs=[.ref r])(dh:H r=some (.tE 0 (n:Int)))(bH:n<=1000000)(aF:∀l,H l=none->Q (.ref l) (upd H l (.lst ((List.range n).map λ(i:Nat)=>V.int (i:Int)))))
theorem VD(hc:X.calm=true):iO X (.type "list") lT:=by
 intro G s D H J K Q I l h;obtain⟨r,n,rfl,p,E,q⟩:=h;obtain⟨u,rfl,w⟩:=lG l;cases w;obtain⟨t,u,v,m⟩:=I.aW r _ p;refine call_list_range (a:=0) (b:=n) (c:=1) (n:=n) (I.ok.hd hc) m (small_one 'a' 'a' 'a' 'a') (by rw[rangeSize_one];split<;>lia) 'a' λF A d c y k f=>?_;refine⟨.ref s.heap.objs.size,_,I.laid (a:=s.heap.objs.size) (o:=.lst ((List.range n).map λ(i:Nat)=>V.int (i:Int))) (t':=A) y (Zg _) ⟨?_,d.toList,c,?_,by simpa using k⟩,rfl,q _ I.fresh⟩
 ·rw[Ze,Z5,YV];lia
 ·refine IM (by simp[f.1]) λi x v g B=>?_;rw[Zf]at g;obtain⟨j,C,rfl⟩:=Zp.mp g;have e:j=i:=by
   obtain⟨_,e⟩:=cx C;simpa using e.symm
  subst e;obtain⟨t',rfl⟩:=f.2 j v (by simpa using B);exact⟨t',by simp⟩
end
namespace i6
theorem noFill:fillsNumberSlot (.type "tuple") "mul"=pure false:=
 PySem.fillsNumberSlot_seq (id:= "tuple.__mul__") (r:=some (.builtin "tuple.__rmul__")) F.slot_tuple_mul.lookup (by decide +kernel) F.slot_tuple_rmul.lookup (by decide +kernel)
theorem rep:seqRepeat? (.type "tuple")=pure (some (.builtin "tuple.__mul__")):=by
 unfold seqRepeat?
 rw[PySem.seqSlot_of (T:= "tuple") (name:= "__mul__") (id:= "tuple.__mul__") F.slot_tuple_mul.lookup (by decide +kernel),PySem.seqSlot_of (T:= "tuple") (name:= "__rmul__") (id:= "tuple.__rmul__") F.slot_tuple_rmul.lookup (by decide +kernel)]
 rfl
theorem declines(a:Int)(t:Tok)(l:ae)(items:Array aa)(n:Nat)(e:Option ae)(c:Array (Option aa)):
  Meets (Builtin.«int.__rmul__» ⟨[.int a t,.ref l],[]⟩) (λ_ R s=>s.heap.get? l=some {cls:=.type "tuple",dict:=e,data:=.seq items n,slots:=c}/\R (.ok (.ret Value.notImplemented)) s):=
 .of_wp λb w A R s h=>by
  obtain⟨f,g,d,i,j⟩:=s;obtain⟨k,h⟩:=h
  wp_walk
  exact⟨_,rfl,h⟩
theorem mul(k:Int)(t:Tok)(l:ae)(items:Array aa)(n:Nat)(y:Option ae)(e:Array (Option aa))(h1:1<k)(h2:k<=1000)(hs:items.size=1):
  Meets (Builtin.«tuple.__mul__» ⟨[.ref l,.int k t],[]⟩) (λ_ R s=>s.heap.get? l=some {cls:=.type "tuple",dict:=y,data:=.seq items n,slots:=e} /\
   R (.ok (.ret (.ref s.heap.objs.size))) {s with heap:=s.heap.push {cls:=.type "tuple",data:=.seq ((List.replicate k.toNat items).foldl (·++·) #[])}}):=
 .of_wp λc w A R s h=>by
  obtain⟨B,g,d,C,D⟩:=s;obtain⟨E,h⟩:=h;have j:(decide (k < -2^63)||decide (k>=2^63))=false:=by simp;lia
  have b:items.isEmpty=false:=by
   cases he:items.isEmpty with
   |false=>rfl
   |true=>rw[Array.isEmpty_iff.mp he]at hs;cases hs
  have u:(items.isEmpty||k==1)=false:=by rw[b];simp;lia
  have q:(decide (k<=0)||items.isEmpty)=false:=by rw[b];simp;lia
  have p:¬((items.size:Int)*k>(2^63-1)/8):=by rw[hs];lia
  have i:Builtin.Tuple.tupleTooMany ((items.size:Int)*k)=false:=by
   rw[hs];show decide (((1:Nat):Int)*k>(sizeLine:Int))=false;rw[YV];exact Zy 'a'
  wp_walk
  refine YK (λz=>by rw[j]at z;cases z) λ_=>?_
  wp_walk
  refine YK (λz=>by rw[u]at z;cases z) λ_=>?_;refine YK (λz=>by rw[q]at z;cases z) λ_=>?_;refine YK (λz=>absurd z p) λ_=>?_;refine YK (λz=>by rw[i]at z;cases z) λ_=>?_
  wp_walk
  refine YK (λz=>absurd z ?_) λ_=>?_
  ·have f:∀(m:Nat)(a:Array aa),(List.foldl (λx r=>x++r) a (List.replicate m items)).size=a.size+m:=λm=>by
    induction m with
    |zero=>intro a;rfl
    |succ m v=>
     intro a;rw[Xr,Z9,v,Array.size_append,hs];lia
   rw[f,YV];simp;lia
  wp_walk
  exact⟨_,rfl,h⟩
end i6
section
variable{X:Cx}
theorem xy4:gF X (binaryOp .Mult) (λx y H Q=>∃(l:ae)(k:Int)(v:V),x=.ref l/\y=.int k/\H l=some (.tup [v])/\1<k/\k<=1000/\∀p,H p=none->Q (.ref p) (upd H p (.tup (List.replicate k.toNat v)))):=by
 intro Z s Y H x y v u Q I M W h;obtain⟨l,k,O,rfl,rfl,N,h1,h2,q⟩:=h;cases M;obtain⟨t,rfl⟩:=W;obtain⟨_,J,r,o,g,w,⟨n,P⟩,i⟩:=I.aW l _ N;obtain⟨G,E,C,D⟩:=o
 replace w:G=.type "tuple":=w
 replace i:C=.seq J.toArray n:=i
 subst w i;cases r with
 |cons S L=>
  cases L;rename_i d;have R:List.foldl (λA j=>A++j) #[] (List.replicate k.toNat #[d])=(List.replicate k.toNat d).toArray:=by
   have f:∀(m:Nat)(c:List aa),List.foldl (λA j=>A++j) c.toArray (List.replicate m #[d])=(c++List.replicate m d).toArray:=λm=>by
    induction m with
    |zero=>intro c;simp
    |succ m B=>
     intro c;rw[Xr,Z9,show c.toArray++#[d]=(c++[d]).toArray by simp,B];simp[Xr]
   have:=f k.toNat [];simpa using this
  refine wpAny_binaryOp_repeat_ref (T:= "tuple") (U:= "int") 'c' ⟨_,g,rfl⟩ (λK=>typeIs_int K k t) i6.noFill F.fills_int_mul F.slot_int_rmul i6.rep F.slot_int_index.lookup
   (call_meets F.slot_int_rmul (typeIs_int s k t) F.entry_int_rmul (F.args_int_rmul_2 _ _) (i6.declines k t l _ n E D)
    ⟨g,rfl,⟨_,g,rfl⟩,call_meets F.slot_tuple_mul ⟨_,g,rfl⟩ F.entry_tuple_mul (F.args_tuple_mul_2 _ _) (i6.mul k t l _ n E D h1 h2 rfl) ⟨g,?_⟩⟩)
  rw[R];refine⟨.ref _,_,I.laid (a:=s.heap.objs.size) (o:=.tup (List.replicate k.toNat O)) (t':=s.toks) (λb o e=>Zb _ e) (Zg _) ⟨?_,List.replicate k.toNat d,?_,_,Zh _ rfl,rfl,⟨_,rfl⟩,rfl⟩,rfl,q _ I.fresh⟩
  ·rw[XM,YV];lia
  ·generalize k.toNat=m
   induction m with
   |zero=>exact .nil
   |succ m B=>exact .cons S B
end
end L2
namespace Qf
abbrev Row:=List Nat
def mx:List Nat->Nat
 |[]=>0
 |a::l=>max a (mx l)
theorem yo{x:Nat}:∀{l:List Nat},x∈l->x<=mx l
 |a::l,h=>by
  rcases ZB.mp h with rfl|h
  ·exact Nat.le_max_left _ _
  ·exact ZN (yo h) (Nat.le_max_right _ _)
theorem Kd{b:Nat}:∀{l:List Nat},(∀x∈l,x<=b)->mx l<=b
 |[],_=>ZU _
 |a::l,h=>Nat.max_le.mpr ⟨h a Zw,Kd λx c=>h x (Zn _ c)⟩
theorem VR{f g:Nat->Nat}:∀{l:List Nat},(∀x∈l,f x<=g x)->mx (l.map f)<=mx (l.map g)
 |[],_=>Zg _
 |a::l,h=>by
  have h1:=h a Zw;have h2:=VR (l:=l) λx b=>h x (Zn _ b);show max (f a) (mx (l.map f))<=max (g a) (mx (l.map g));lia
theorem Ud{f g:Nat->Nat}{l:List Nat}(h:∀x∈l,f x=g x):mx (l.map f)=mx (l.map g):=by
 rw[Yx h]
def yn(p:Nat)(r:Row):Prop:=r.length=4/\∀x∈r,x<p+2
def cz(rows:List Row):Prop:=∀p r,rows[p]?=some r->yn p r
def xy6(a:List Nat)(r:Row):List Nat:=a++[1+mx (r.map (a.getD · 0))]
def fm(rows:List Row):List Nat:=rows.foldl xy6 [0,0]
def dp(rows:List Row)(x:Nat):Nat:=(fm rows).getD x 0
theorem HP(rows:List Row)(r:Row):fm (rows++[r])=fm rows++[1+mx (r.map (dp rows))]:=by
 unfold fm dp fm;rw[WF]
 rfl
theorem HF{P:List Row->Prop}(h0:P [])(h1:∀l a,P l->P (l++[a]))(l:List Row):P l:=by
 have:∀m:List Row,P m.reverse:=λm=>by
  induction m with
  |nil=>exact h0
  |cons a m b=>rw[XU];exact h1 _ _ b
 have h:=this l.reverse
 rwa [List.reverse_reverse]at h
theorem sC(rows:List Row):(fm rows).length=rows.length+2:=by
 induction rows using HF with
 |h0=>rfl
 |h1 l a b=>rw[HP,Zk,b,Zk];simp
theorem LM{rows:List Row}{r:Row}{x:Nat}(h:x<rows.length+2):dp (rows++[r]) x=dp rows x:=by
 unfold dp;rw[HP,Zt,Zt,Zm (by rw[sC];exact h)]
theorem LL{rows:List Row}{r:Row}:dp (rows++[r]) (rows.length+2)=1+mx (r.map (dp rows)):=by
 unfold dp;rw[HP,Zt,Zs (by rw[sC];exact Zg _),sC];simp only[W2,List.getElem?_cons_zero,Option.getD_some]
 rfl
theorem CZ{rows more:List Row}{x:Nat}(h:x<rows.length+2):dp (rows++more) x=dp rows x:=by
 induction more using HF with
 |h0=>simp
 |h1 l a b=>
  rw[<- Z6,LM (by simp;lia),b]
theorem so{rows:List Row}{x:Nat}(h:x<2):dp rows x=0:=by
 have:=CZ (rows:=[]) (more:=rows) (x:=x) (by simpa using h);rw[List.nil_append]at this;rw[this]
 match x,h with
 |0,_=>rfl
 |1,_=>rfl
theorem q96{rows:List Row}{p:Nat}{r:Row}(a:rows[p]?=some r):rows=rows.take p++[r]++rows.drop (p+1):=by
 have b:=(cx a).1;have c:=(cx a).2;rw[<- c,YI b,Xe]
theorem pN{rows:List Row}(ok:cz rows){p:Nat}{r:Row}(a:rows[p]?=some r):dp rows (p+2)=1+mx (r.map (dp rows)):=by
 have f:=(cx a).1;have b:(rows.take p).length=p:=by simp;lia
 have e:=q96 a;have h1:dp rows (p+2)=dp (rows.take p++[r]) (p+2):=by
  have:=CZ (rows:=rows.take p++[r]) (more:=rows.drop (p+1)) (x:=p+2) (by simp;lia);rw[<- e]at this;exact this
 have h2:=LL (rows:=rows.take p) (r:=r);rw[b]at h2;rw[h1,h2];congr 1;refine Ud λx c=>?_;have d:=(ok p r a).2 x c;have:=CZ (rows:=rows.take p) (more:=[r]++rows.drop (p+1)) (x:=x) (by rw[b];exact d);rw[<- Z6,<- e]at this;exact this.symm
def cu(rows:List Row):Nat->List Nat->Nat->List Nat
 |0,e,_=>e
 |d+1,e,x=>if x<2\/x-2∈e then e else(rows.getD (x-2) []).foldl (cu rows d) e++[x-2]
theorem HN{f:List Nat->Nat->List Nat}(h:∀e x,∃s,f e x=e++s):∀(l:List Nat)(e:List Nat),∃s,l.foldl f e=e++s
 |[],e=>⟨[],by simp⟩
 |a::l,e=>by
  obtain⟨s,d⟩:=h e a;obtain⟨c,b⟩:=HN h l (f e a);exact⟨s++c,by rw[Z9,b,d,Z6]⟩
theorem IL(rows:List Row):∀(d:Nat)(e:List Nat)(x:Nat),∃s,cu rows d e x=e++s
 |0,e,x=>⟨[],by simp[cu]⟩
 |d+1,e,x=>by
  unfold cu;split
  ·exact⟨[],by simp⟩
  ·obtain⟨s,a⟩:=HN (IL rows d) (rows.getD (x-2) []) e;exact⟨s++[x-2],by rw[a,Z6]⟩
structure dX(rows:List Row)(e:List Nat):Prop where
 nd:e.Nodup
 lt:∀p∈e,p<rows.length
 ch:∀(i p:Nat),e[i]?=some p->∀q∈rows.getD p [],q<2\/∃j:Nat,j<i/\e[j]?=some (q-2)
theorem vg(rows:List Row):dX rows []:=⟨XZ,λp a=>(nomatch a),λi p h=>by simp at h⟩
theorem VQ{e s:List Nat}{j a:Nat}(h:e[j]?=some a):(e++s)[j]?=some a:=by
 have:=(cx h).1;rw[Zm this];exact h
theorem pU{rows:List Row}(ok:cz rows):∀(d:Nat)(e:List Nat)(x:Nat),dX rows e->x<rows.length+2->dp rows x<=d->dX rows (cu rows d e x)/\(x<2\/x-2∈cu rows d e x)
 |0,e,x,E,hx,M=>by
  refine⟨E,?_⟩;by_cases h:x<2
  ·exact .inl h
  ·exfalso;obtain⟨p,rfl⟩:∃p,x=p+2:=⟨x-2,by lia⟩;have C:rows[p]?=some (rows[p]'(by lia)):=by simp[show p<rows.length by lia]
   rw[pN ok C]at M;lia
 |d+1,e,x,E,hx,M=>by
  unfold cu;split
  ·rename_i h;exact⟨E,h⟩
  ·rename_i h;obtain⟨h1,h2⟩:=Vy.mp h;obtain⟨p,rfl⟩:∃p,x=p+2:=⟨x-2,by lia⟩;rw[Wr]at h2 ⊢;have R:p<rows.length:=by lia
   have C:rows[p]?=some rows[p]:=by simp[R]
   have N:rows.getD p []=rows[p]:=by simp[List.getD,R]
   rw[N];have Jv:=pN ok C;have V:=ok p _ C;have key:∀(l:List Nat)(f:List Nat),(∀q∈l,q<p+2/\dp rows q<=d)->dX rows f->dX rows (l.foldl (cu rows d) f)/\(∀q∈l,q<2\/q-2∈l.foldl (cu rows d) f)/\(∀a∈l.foldl (cu rows d) f,a∈f\/a<p):=λl=>by
    induction l with
    |nil=>exact λf _ F=>⟨F,λq g=>(nomatch g),λa c=>.inl c⟩
    |cons q l ih=>
     intro f Q F;obtain⟨hq1,P⟩:=Q q Zw;obtain⟨p1,m1⟩:=pU ok d f q F 'a' P;obtain⟨p2,Y,X⟩:=ih (cu rows d f q) (λw m=>Q w (Zn _ m)) p1;obtain⟨s,Z⟩:=HN (IL rows d) l (cu rows d f q);refine⟨p2,λw m=>?_,λa c=>?_⟩
     ·rcases ZB.mp m with rfl|m
      ·rcases m1 with z|z
       ·exact .inl z
       ·rw[Z9,Z];exact .inr (YO _ z)
      ·exact Y w m
     ·rcases X a c with z|z
      ·
       have k:∀(v:Nat)(D:List Nat)(y:Nat),y<rows.length+2->∀a∈cu rows v D y,a∈D\/a+2<=y:=λv=>by
        induction v with
        |zero=>exact λD y _ a c=>.inl c
        |succ v K=>
         intro D y hy a c;unfold cu at c;split at c
         ·exact .inl c
         ·rename_i hh;obtain⟨U,hh2⟩:=Vy.mp hh;rcases Z8.mp c with c|c
          ·have B:y-2<rows.length:=by lia
           have H:rows.getD (y-2) []=rows[y-2]:=by simp[List.getD,B]
           rw[H]at c;have G:=ok (y-2) rows[y-2] (by simp[B]);have T:∀(A:List Nat)(u:List Nat),(∀q∈A,q<y-2+2)->∀a∈A.foldl (cu rows v) u,a∈u\/a+2<=y:=λA=>by
            induction A with
            |nil=>exact λu _ a c=>.inl c
            |cons S A J=>
             intro u O a c;rcases J _ (λw m=>O w (Zn _ m)) a c with z|z
             ·have P:=O S Zw;rcases K u S 'a' a z with z|z
              ·exact .inl z
              ·exact .inr 'a'
             ·exact .inr z
           exact T _ _ G.2 a c
          ·have:a=y-2:=by simpa using c
           exact .inr 'a'
       rcases k d f q 'a' a z with z|z
       ·exact .inl z
       ·exact .inr 'a'
      ·exact .inr z
   obtain⟨k1,k2,k3⟩:=key rows[p] e (λq g=>⟨V.2 q g,by
    have:dp rows q<=mx (rows[p].map (dp rows)):=yo (ZV.mpr ⟨q,g,rfl⟩);lia⟩) E
   refine⟨⟨?_,?_,?_⟩,.inr (Z1 _ 'b')⟩
   ·rw[Yk];refine⟨k1.nd,by simp,λa c b hb=>?_⟩;have:b=p:=by simpa using hb
    subst this;intro z;subst z;rcases k3 a c with z|z
    ·exact h2 z
    ·exact YH _ z
   ·intro a c;rcases Z8.mp c with c|c
    ·exact k1.lt a c
    ·have:a=p:=by simpa using c
     lia
   ·intro i a r q g;by_cases W:i<(rows[p].foldl (cu rows d) e).length
    ·rw[Zm W]at r;rcases k1.ch i a r q g with z|⟨j,L,I⟩
     ·exact .inl z
     ·exact .inr ⟨j,L,VQ I⟩
    ·rw[Zs 'a']at r;have EX:i-(rows[p].foldl (cu rows d) e).length=0:=by
      have:=(cx r).1;simp at this;exact this
     rw[EX]at r;have:a=p:=by simpa using r.symm
     subst this;rw[N]at g;rcases k2 q g with z|z
     ·exact .inl z
     ·obtain⟨j,L,I⟩:=ZM.mp z;exact .inr ⟨j,by lia,VQ (by simp[L,I])⟩
theorem dr{c:Type}{l:List c}:l.Nodup<->∀i j:Nat,i<j->j<l.length->l[i]?≠l[j]?:=by
 unfold List.Nodup;rw[Vb];constructor
 ·intro h i j b a z;rw[Zd 'a',Zd a]at z;exact h i j 'a' a b (Zu z)
 ·intro h i j d a b z;refine h i j b a ?_;rw[Zd d,Zd a,z]
def nm(E:List Nat)(q:Nat):Nat:=if q<2 then q else E.idxOf (q-2)+2
theorem oq{E:List Nat}{q:Nat}(h:q<2):nm E q=q:=Zr h
theorem pq{E:List Nat}{q:Nat}(h:¬q<2):nm E q=E.idxOf (q-2)+2:=Zi h
def p6(E:List Nat)(q:Nat):Prop:=q<2\/q-2∈E
theorem RZ{E:List Nat}(nd:E.Nodup){i a:Nat}(h:E[i]?=some a):E.idxOf a=i:=by
 obtain⟨c,b⟩:=cx h;rw[<- b];exact nd.idxOf_getElem _ _
theorem A0{E:List Nat}{a:Nat}(h:a∈E):E[E.idxOf a]?=some a:=by
 have b:=YS h;rw[Zd b];congr 1;exact List.getElem_idxOf b
theorem xI3{E:List Nat}{q r:Nat}(c:p6 E q)(d:p6 E r)(h:nm E q=nm E r):q=r:=by
 by_cases h1:q<2
 ·rw[oq h1]at h;by_cases h2:r<2
  ·rwa [oq h2]at h
  ·rw[pq h2]at h;lia
 ·rw[pq h1]at h;by_cases h2:r<2
  ·rw[oq h2]at h;lia
  ·rw[pq h2]at h;have a:=A0 (c.resolve_left h1);have b:=A0 (d.resolve_left h2);have e:E.idxOf (q-2)=E.idxOf (r-2):=by lia
   rw[e,b]at a;have:=Zu a;lia
def told(rows:List Row)(E:List Nat):List Row:=E.map λp=>(rows.getD p []).map (nm E)
theorem nH(rows:List Row)(E:List Nat):(told rows E).length=E.length:=by simp[told]
theorem u6{rows:List Row}{E:List Nat}{i p:Nat}(h:E[i]?=some p):(told rows E)[i]?=some ((rows.getD p []).map (nm E)):=by
 unfold told;rw[Zf,h];rfl
theorem AZ{rows:List Row}{E:List Nat}(a:dX rows E){i p:Nat}(h:E[i]?=some p){q:Nat}(c:q∈rows.getD p []):p6 E q/\nm E q<i+2:=by
 rcases a.ch i p h q c with z|⟨j,e,b⟩
 ·exact⟨.inl z,by rw[oq z];lia⟩
 ·have d:q-2∈E:=Zo b;refine⟨.inr d,?_⟩;by_cases z:q<2
  ·rw[oq z];lia
  ·rw[pq z,RZ a.nd b];lia
theorem ou{rows:List Row}{p:Nat}(h:p<rows.length):rows[p]?=some (rows.getD p []):=by
 simp[List.getD,h]
theorem Mj{rows:List Row}(ok:cz rows){E:List Nat}(c:dX rows E):cz (told rows E):=by
 intro i r a;have d:i<E.length:=by
  have:=(cx a).1
  rwa [nH]at this
 have b:E[i]?=some E[i]:=Zd d;rw[u6 b]at a;have g:=Zu a;subst g;have h:=c.lt _ (YY d);refine⟨?_,λx f=>?_⟩
 ·rw[Ze];exact(ok _ _ (ou h)).1
 ·obtain⟨q,e,rfl⟩:=ZV.mp f;exact(AZ c b e).2
theorem q12{rows:List Row}{E:List Nat}(d:dX rows E)(nd:rows.Nodup):(told rows E).Nodup:=by
 rw[dr];intro i j x f;rw[nH]at f;have u:i<E.length:=by lia
 have p:E[i]?=some E[i]:=Zd u;have k:E[j]?=some E[j]:=Zd f;rw[u6 p,u6 k];intro z;have z:=Zu z;have key:∀l m:List Nat,(∀q∈l,p6 E q)->(∀q∈m,p6 E q)->l.map (nm E)=m.map (nm E)->l=m:=λl=>by
  induction l with
  |nil=>intro m _ _ h;cases m with
   |nil=>rfl
   |cons b m=>simp at h
  |cons a l A=>intro m h1 h2 h;cases m with
   |nil=>simp at h
   |cons b m=>
    rw[ZL,ZL]at h;injection h with h3 h4
    rw[xI3 (h1 a Zw) (h2 b Zw) h3,A m (λq c=>h1 q (Zn _ c)) (λq c=>h2 q (Zn _ c)) h4]
 have e:=key _ _ (λq c=>(AZ d p c).1) (λq c=>(AZ d k c).1) z;have r:=d.lt _ (YY u);have s:=d.lt _ (YY f);have g:=ou r;have y:=ou s;rw[e,<- y]at g;have:E[i]=E[j]:=by
  by_cases v:E[i]=E[j]
  ·exact v
  ·exfalso;rcases Nat.lt_or_gt_of_ne v with w|w
   ·exact(dr.mp nd) _ _ w s g
   ·exact(dr.mp nd) _ _ w r g.symm
 have:=(dr.mp d.nd) i j x f;rw[p,k]at this;exact this (by rw[‹E[i]=E[j]›])
def fJ(r:Row):Prop:=r=[0,0,0,0]\/r=[1,1,1,1]
instance(r:Row):Decidable (fJ r):=by unfold fJ;infer_instance
theorem Mi{f:Nat->Nat}{c:Nat}(h:∀q,f q=c->q=c):∀{l:List Nat}{k:Nat},l.map f=List.replicate k c->l=List.replicate k c
 |[],0,_=>rfl
 |[],k+1,z=>by simp[List.replicate]at z
 |a::l,0,z=>by simp at z
 |a::l,k+1,z=>by
  rw[ZL,Xr]at z;injection z with z1 z2
  rw[h a z1,Mi h z2,Xr]
theorem Uc{E:List Nat}{c:Nat}(hc:c<2)(q:Nat)(h:nm E q=c):q=c:=by
 by_cases z:q<2
 ·rwa [oq z]at h
 ·rw[pq z]at h;lia
theorem qN3{rows:List Row}{E:List Nat}(c:dX rows E)(b:∀r∈rows,¬fJ r):∀r∈told rows E,¬fJ r:=by
 intro r d;obtain⟨p,e,rfl⟩:=ZV.mp d;have a:rows.getD p []∈rows:=Zo (ou (c.lt p e));intro z;rcases z with z|z
 ·exact b _ a (.inl (Mi (k:=4) (Uc 'c') z))
 ·exact b _ a (.inr (Mi (k:=4) (Uc 'c') z))
theorem xy7{rows:List Row}(ok:cz rows){E:List Nat}(a:dX rows E):∀q,p6 E q->dp (told rows E) (nm E q)=dp rows q:=by
 intro q
 induction q using Nat.strongRecOn with
 |ind q g=>
  intro f;by_cases z:q<2
  ·rw[oq z,so z,so z]
  ·have b:=f.resolve_left z;have e:=a.lt _ b;have d:=A0 b;rw[pq z,pN (Mj ok a) (u6 d)];have h:dp rows q=1+mx ((rows.getD (q-2) []).map (dp rows)):=by
    have:=pN ok (ou e)
    rwa [show q-2+2=q by lia]at this
   rw[h,Xm];congr 1;refine Ud λx c=>?_;have i:=(ok _ _ (ou e)).2 x c;exact g x 'a' (AZ a d c).1
theorem Ub{rows:List Row}(ok:cz rows){E:List Nat}(p:dX rows E):∀(d:Nat)(e:List Nat)(y:Nat),cu rows d e y <+: E->cu (told rows E) d (List.range e.length) (nm E y)=List.range (cu rows d e y).length
 |0,e,y,_=>rfl
 |d+1,e,y,f=>by
  have m:e <+: E:=by
   obtain⟨s,b⟩:=IL rows (d+1) e y;rw[b]at f;exact W1 (W7 _ _) f
  have k:∀{a:Nat},a∈E->(a∈e<->E.idxOf a<e.length):=λ{a} A=>by
   obtain⟨s,b⟩:=m;constructor
   ·intro j;rw[<- b,Vh,Zr j];exact YS j
   ·intro x;have:=A0 A;rw[<- b,Zm (by rw[b];exact x)]at this;exact Zo this
  unfold cu at f ⊢;by_cases h:y<2\/y-2∈e
  ·rw[Zr h,Zr];rcases h with h|h
   ·exact .inl (by rw[oq h];exact h)
   ·by_cases z:y<2
    ·exact .inl (by rw[oq z];exact z)
    ·right;rw[pq z,Wr,ZX];exact(k (m.subset h)).mp h
  ·rw[Zi h]at f ⊢;obtain⟨h1,h2⟩:=Vy.mp h;have r:y-2∈E:=f.subset 'b';rw[pq h1,Wr];have u:¬(E.idxOf (y-2)+2<2\/E.idxOf (y-2)∈List.range e.length):=by
    rw[ZX];rintro(z|z)
    ·lia
    ·exact h2 ((k r).mpr z)
   rw[Zi u];have v:(told rows E).getD (E.idxOf (y-2)) []=(rows.getD (y-2) []).map (nm E):=by
    have:=u6 (rows:=rows) (A0 r);rw[Zt,this];rfl
   rw[v];have key:∀(l:List Nat)(c:List Nat),l.foldl (cu rows d) c <+: E->(l.map (nm E)).foldl (cu (told rows E) d) (List.range c.length)=List.range (l.foldl (cu rows d) c).length:=λl=>by
    induction l with
    |nil=>exact λc _=>rfl
    |cons q l w=>
     intro c i;rw[ZL,Z9,Z9];have:cu rows d c q <+: E:=by
      obtain⟨s,b⟩:=HN (IL rows d) l (cu rows d c q);rw[Z9,b]at i;exact W1 (W7 _ _) i
     rw[Ub ok p d c q this];exact w _ i
   have g:(rows.getD (y-2) []).foldl (cu rows d) e <+: E:=W1 (W7 _ _) f;rw[key _ e g,Zk];have:E.idxOf (y-2)=((rows.getD (y-2) []).foldl (cu rows d) e).length:=by
    refine RZ p.nd ?_;obtain⟨s,b⟩:=f;rw[<- b,Z6,Zs (Zg _),W2]
    rfl
   rw[this];exact XE.symm
structure Canon(n top:Nat)(rows:List Row):Prop where
 size:n<=12
 gA:cz rows
 gp:top<rows.length+2
 deep:dp rows top<=n
 dF:∀r∈rows,¬fJ r
 unlike:rows.Nodup
 ends:cu rows n [] top=List.range rows.length
theorem VC{n x:Nat}{rows:List Row}(f:n<=12)(ok:cz rows)(e:x<rows.length+2)(b:dp rows x<=n)(d:∀r∈rows,¬fJ r)(nd:rows.Nodup):
  Canon n (nm (cu rows n [] x) x) (told rows (cu rows n [] x)):=by
 obtain⟨a,c⟩:=pU ok n [] x (vg rows) e b;refine⟨f,Mj ok a,?_,?_,qN3 a d,q12 a nd,?_⟩
 ·rw[nH];by_cases z:x<2
  ·rw[oq z];lia
  ·rw[pq z];have:=YS (c.resolve_left z);lia
 ·rw[xy7 ok a x c];exact b
 ·rw[nH];exact Ub ok a n [] x (List.prefix_refl _)
def ex(q:Nat):Nat:=if q<2 then 1-q else q
theorem xO1(q:Nat):ex (ex q)=q:=by
 by_cases h:q<2
 ·have:ex q=1-q:=Zr h;rw[this];unfold ex;rw[Zr 'a'];lia
 ·have:ex q=q:=Zi h;rw[this,this]
theorem xO2{q b:Nat}(h:q<b+2):ex q<b+2:=by unfold ex;split<;>lia
def gT(rows:List Row):List Row:=rows.map (·.map ex)
theorem Iq{rows:List Row}(ok:cz rows):cz (gT rows):=by
 intro p r a;unfold gT at a;rw[Zf]at a;obtain⟨b,c,rfl⟩:=Zp.mp a;refine⟨by rw[Ze];exact(ok p b c).1,λx e=>?_⟩;obtain⟨q,d,rfl⟩:=ZV.mp e;exact xO2 ((ok p b c).2 q d)
def kz(K:List Row)(look:Row):List Row:=if look∈K then K else K++[look]
def C8(s:List Nat×List Row)(r:Row):List Nat×List Row:=(s.1++[s.2.idxOf (r.map (s.1.getD · 0))],kz s.2 (r.map (s.1.getD · 0)))
def mg(rows:List Row):List Nat×List Row:=rows.foldl C8 ([0,1],[[0,0,0,0],[1,1,1,1]])
structure Q4(rows:List Row)(s:List Nat×List Row):Prop where
 len:s.1.length=rows.length+2
 two:2<=s.2.length
 fst:s.2.take 2=[[0,0,0,0],[1,1,1,1]]
 nd:s.2.Nodup
 lt:∀x∈s.1,x<s.2.length
 ok:cz (s.2.drop 2)
 dp:∀x,dp (s.2.drop 2) (s.1.getD x 0)<=dp rows x
theorem Mh(rows:List Row)(r:Row):mg (rows++[r])=C8 (mg rows) r:=by
 unfold mg;rw[WF]
 rfl
theorem Dn{l:List Nat}{b:Nat}(hb:0<b)(h:∀x∈l,x<b)(i:Nat):l.getD i 0<b:=by
 rw[Zt];cases e:l[i]? with
 |none=>exact hb
 |some a=>exact h a (Zo e)
theorem Kb{rows:List Row}(h:cz rows):Q4 rows (mg rows):=by
 revert h
 induction rows using HF with
 |h0=>
  intro _;refine⟨rfl,by decide,rfl,by decide,by decide,λp r f=>?_,λx=>?_⟩
  ·exact absurd f (by simp[mg])
  ·show dp [] _<=dp [] x
   match x with
   |0=>exact Zg _
   |1=>exact Zg _
   |x+2=>
    show dp [] (([0,1]:List Nat).getD (x+2) 0)<=_;have:([0,1]:List Nat).getD (x+2) 0=0:=rfl;rw[this];exact ZU _
 |h1 l r P=>
  intro h;have L:yn l.length r:=h l.length r 'b';have Q:cz l:=λp k f=>h p k (by
   have:=(cx f).1;rw[Zm this];exact f)
  have m:=P Q;rw[Mh];generalize mg l=s at m;obtain⟨H,K⟩:=s;obtain⟨y,u,E,B,d,A,w⟩:=m;simp only at y u E B d A w;unfold C8;simp only;generalize j:r.map (H.getD · 0)=look;have C:look.length=4:=by rw[<- j,Ze];exact L.1
  have N:∀x∈look,x<K.length:=λx c=>by
   rw[<- j]at c;obtain⟨q,_,rfl⟩:=ZV.mp c;exact Dn 'a' d q
  obtain⟨s,v⟩:∃s,kz K look=K++s:=by
   unfold kz;split
   ·exact⟨[],by simp⟩
   ·exact⟨[look],rfl⟩
  have F:cz ((kz K look).drop 2):=by
   unfold kz;split
   ·exact A
   ·rw[WO u];intro p k f;by_cases D:p<(K.drop 2).length
    ·rw[Zm D]at f;exact A p k f
    ·rw[Zs 'a']at f;have:p-(K.drop 2).length=0:=by
      have:=(cx f).1;simp at this ⊢;exact this
     rw[this]at f;have:k=look:=by simpa using f.symm
     subst this;refine⟨C,λx c=>?_⟩;have:=N x c;rw[Z3]at D;lia
  have i:∀x,x<K.length->dp ((kz K look).drop 2) x=dp (K.drop 2) x:=λx c=>by
   rw[v,WO u];exact CZ (by rw[Z3];lia)
  have J:K.idxOf look<(kz K look).length:=by
   unfold kz;split
   ·rename_i g;exact YS g
   ·rename_i g;rw[WP g,Zk];simp
  have O:(kz K look)[K.idxOf look]?=some look:=by
   unfold kz;split
   ·rename_i g;have G:=YS g;rw[Zd G];congr 1;exact List.getElem_idxOf G
   ·rename_i g;rw[WP g];simp
  refine⟨?_,?_,?_,?_,?_,F,?_⟩
  ·simp[y]
  ·rw[v,Zk];lia
  ·rw[v,List.take_append_of_le_length u];exact E
  ·unfold kz;split
   ·exact B
   ·rename_i g;rw[Yk];exact⟨B,by simp,λa R b hb=>by
     have:b=look:=by simpa using hb
     subst this;intro z;exact g (z▸R)⟩
  ·intro x c;rcases Z8.mp c with c|c
   ·have:=d x c;rw[v,Zk];lia
   ·have:x=K.idxOf look:=by simpa using c
    rw[this];exact J
  ·intro x;by_cases c:x<l.length+2
   ·have e:(H++[K.idxOf look]).getD x 0=H.getD x 0:=by
     rw[Zt,Zt,Zm 'a']
    rw[e,LM c,i _ (Dn 'a' d x)];exact w x
   ·by_cases M:x=l.length+2
    ·subst M;have e:(H++[K.idxOf look]).getD (l.length+2) 0=K.idxOf look:=by
      rw[Zt,Zs 'a',y];simp
     rw[e,LL];by_cases z:K.idxOf look<2
     ·rw[so z];exact ZU _
     ·have I:((kz K look).drop 2)[K.idxOf look-2]?=some look:=by
       rw[Ws,show 2+(K.idxOf look-2)=K.idxOf look by lia];exact O
      have:=pN F I;rw[show K.idxOf look-2+2=K.idxOf look by lia]at this;rw[this,<- j,Xm];refine Nat.add_le_add_left ?_ _;refine VR λq _=>?_;show dp ((kz K (r.map (H.getD · 0))).drop 2) (H.getD q 0)<=dp l q;rw[j,i _ (Dn 'a' d q)];exact w q
    ·have e:(H++[K.idxOf look]).getD x 0=0:=by
      rw[Zt,Yc (by simp;lia)];rfl
     rw[e,so 'c'];exact ZU _
def tT(rows:List Row)(top:Nat):Nat:=(mg rows).1.getD top 0
def sk(rows:List Row):List Row:=(mg rows).2.drop 2
theorem xl0{n top:Nat}{rows:List Row}(c:n<=12)(ok:cz rows)(e:top<rows.length+2)(b:dp rows top<=n):
  Canon n (nm (cu (sk rows) n [] (tT rows top)) (tT rows top)) (told (sk rows) (cu (sk rows) n [] (tT rows top))):=by
 have m:=Kb ok;have d:=m.two;refine VC c m.ok ?_ (ZN (m.dp top) b) ?_ ?_
 ·have:=Dn 'a' m.lt top;unfold tT sk;rw[Z3];lia
 ·intro r a z;have nd:=m.nd;rw[<- Xe 2 (mg rows).2,m.fst,Yk]at nd;have:=nd.2.2;rcases z with z|z
  ·exact this [0,0,0,0] 'b' r a z.symm
  ·exact this [1,1,1,1] 'b' r a z.symm
 ·exact List.Nodup.sublist (List.drop_sublist _ _) m.nd
end Qf
namespace L2
open PySem PySem.Spec PyProof.Rows
section
variable{X:Cx}
theorem xl1{i0:Nat}{l:aq}{E P:aA}{nn:List aq}{j:ar}{d:List ar}{f:aA}{a iter:ar}{scope:ax}{W:TI}{g:TG}{M:TT}{te:TE}(T:Env->Sem Bool)(hc:X.calm=true)(hi:PI X j iter W)
  (mB:∀F k c,compTurn (.ListComp a [⟨j,iter,d,0⟩] scope f) 0 F k c=(standAt iter.pos >>= λ_=>pyNext F >>= λr=>match r with
   |none=>pure (.done .next)
   |some v=>letOwnedTupleGo j F v >>= λ_=>assign j c v >>= λ_=>T c >>= λok=>(if ok=true then(eval a c >>= λx=>call (.builtin "list.append") [k,x] >>= λ_=>pure ())else pure ()) >>= λ_=>
     again (.compLoop (.ListComp a [⟨j,iter,d,0⟩] scope f) 0 F k c)))
  (rE:∀m C fp w q,PG (gP X scope m C nn fp w q) j g)
  (mC:∀y (L i:St) H R,L.length=nn.length->g y (L++i) H R->g y (L++i) H λB H'=>(∃U:St,U.length=nn.length/\B=U++i)/\R B H')
  (Er:∀m C fp w q (A:List (ae×aw)) (s:af) (i:St) (H:Hp) (Q:Bool->Hp->Prop),Inv (gP X scope m C nn fp w q) A i H s->M i H Q->ag (aj X.prog X.w) X.A (T (compEnvC scope m C X.env)) (TP (gP X scope m C nn fp w q) A i Q) (λ_ _=>False) s)
  (he:∀m C fp w q,PE (gP X scope m C nn fp w q) a te)
  (jE:scope.kind=.function) (j9:∀y∈scope.names,y.2≠.cell) (jF:∀y∈scope.names,y.2=.local->scope.names.lookup y.1=some .local)
  (jP:∀y∈X.N,scope.names.lookup y≠some .local) (hfr:∀p∈scope.names,p.2=.free->uB X.env.scope p.1/\X.env.scope.names.lookup p.1≠some .local)
  (hs:∀x,foldedSetIterable iter X.env x=pure x) (G:X.N.Nodup) (EX:X.N[i0]?=some l) (Y:X.env.scope.names.lookup l=some .local) (OC:swapsWith (.ListComp a [⟨j,iter,d,0⟩] scope f) (some (.Name l E)) P.line X.env=pure true):
  PS X (.Assign [.Name l E] (.ListComp a [⟨j,iter,d,0⟩] scope f) P) (lu (uY nn.length W g M te) (eZ i0)):=by
 intro A s i H EE I h;rw[exec_Assign_Name_used _ _ _ _ OC];refine Za (WK (Za ?_));show ag _ X.A (do let _ <- comprehension (.ListComp a [⟨j,iter,d,0⟩] scope f) scope X.env _ (newList []) false (eval iter X.env) (some (assign (.Name l E) X.env))) _ _ s;refine Za (Yz (VE (use:=some (assign (.Name l E) X.env)) (QQ:=λ_ N=>SP X A EE .next N) T hc hi mB rE mC Er he jE j9 jF jP hfr hs I h λD C V K m4 u S iv Z=>?_) (λ_ N hq=>Zc (Zc hq)) λ_ _ e=>e);have IX:Inv X A i V K:=iv K.heap (Heap.SameBut.refl _ _);obtain⟨oC,esC,epC,J,rC⟩:=id S;have IP:=IX.pinned (fp:=[C]) (λb hb=>by
  have:b=C:=by simpa using hb
  subst this;exact u) (λb hb=>by
  have:b=C:=by simpa using hb
  subst this;exact⟨oC,J,λv z=>by rw[rC.1]at z;cases z⟩)
 show ag _ X.A (assign (.Name l E) X.env (.ref D)) _ _ K;refine wpAny_assign_Name (yh (v:=.ref D) IP G EX (.inl Y) rfl (λs5 O=>?_) (.inr Y));have pC:=O.pin (C,oC) (Z1 _ (Z1 _ (Ic 'b' J)));refine⟨m4,S.at' (λo e=>by rw[J]at e;cases e;exact pC.1),λh' sb=>⟨_,V,?_,Z⟩⟩;exact O.fh.turned (t':=s5.toks) (λb o hb e=>(sb.2 b hb).trans e) u.1 u.2.1 u.2.2.2.1 u.2.2.2.2.1 u.2.2.2.2.2
theorem xy9{i0:Nat}{e:aq}{A u:aA}{x:aq}{m b:aA}{a iter:ar}{scope:ax}{w:TI}{te:TE}(N:List aq)(j:ax)(T:X.N=N)(V:X.env.scope=j)(hc:X.calm=true)(r:X.N.Nodup)(Y:X.N[i0]?=some e)(W:X.env.scope.names.lookup e=some .local)(U:PI X (.Name x m) iter w)
  (L:∀f C c g d,PE (gP X scope f C [x] c g d) a te)
  (P:scope.kind=.function:=by rfl) (E:scope.names.all (λy=>y.2 != .cell)=true:=by decide +kernel) (G:scope.names.all (λy=>y.2 != .local||scope.names.lookup y.1==some .local)=true:=by decide +kernel)
  (v:scope.names.lookup x=some .local:=by rfl) (F:N.all (λy=>scope.names.lookup y != some .local)=true:=by decide +kernel)
  (hfr:scope.names.all (λp=>p.2 != .free||(j.names.lookup p.1==some .cell||j.names.lookup p.1==some .free))=true:=by decide +kernel)
  (hs:∀x,foldedSetIterable iter X.env x=pure x:=by intro _;rfl) (K:swapsWith (.ListComp a [⟨.Name x m,iter,[],0⟩] scope b) (some (.Name e A)) u.line X.env=pure true:=by rfl):
  PS X (.Assign [.Name e A] (.ListComp a [⟨.Name x m,iter,[],0⟩] scope b) u) (lu (uY 1 w (eZ 0) yp te) (eZ i0)):=by
 obtain⟨M,Z,B,O⟩:=HR T V E G F hfr;refine xl1 (nn:=[x]) (λ_=>pure true) hc U (λS k q=>Ml a _ iter scope b S k q) (λf C c g d=>?_) (λy os D H R J h=>zg J h) (λf C c g d j4 s D H Q I h=>Zc ⟨H,I,h⟩) L P M Z B O hs r Y W K;have l:(gP X scope f C [x] c g d).env.scope.names.lookup x=some .local:=Xl v;exact AJ (i:=0) (YJ.mpr ⟨λz=>B x z v,r⟩) rfl (.inl l) (.inr l)
end
end L2
namespace L2
open PySem PySem.Spec PyProof.Rows PySem.W
section
variable{X:Cx}
def xO3(te:TE)(b f:TG):TS:=λD a H=>te a H λx c=>b x a c λd e=>f x d e D.nx
theorem xz0{a b e:ar}{te:TE}{g j:TG}{d:aA}(m:PE X e te)(h1:PG X a g)(h2:PG X b j)(hw:swappedStores [a,b] e X.env=pure none:=by rfl)
  (l:(assignEach [a,b] X.env).map (·.2)=[assign a X.env,assign b X.env]:=by rfl):PS X (.Assign [a,b] e d) (xO3 te g j):=by
 intro c s f H D I h;refine wpAny_Assign_two (bC (m c s f H _ I h) λv r ⟨x,p,w,i,u⟩=>?_) l hw;refine bC (h1 c r f p x v _ w i u) λ_ B ⟨y,A,k,C⟩=>?_;exact bC (h2 c B y A x v _ k i C) λ_ E q=>q
def RY:TE:=λ_ H Q=>∀p,H p=none->Q (.ref p) (upd H p (.dK []))
theorem MJ{b:aA}:PE X (.Dict [] [] b) RY:=λd s c H Q I h=>by
 have hb:sysModules<s.heap.objs.size:=WA 'c' (I.mod.glob.keeps I.bk).lt;exact wpAny_Dict_empty ⟨.ref s.heap.objs.size,_,I.laid (a:=s.heap.objs.size) (o:=.dK []) (t':=s.toks) (λ_ _ q=>Zb _ q) (Zg _) ⟨ZU _,YD.mpr (Z2 (Zz hb)),[],.nil,Heap.DictOf.new _⟩,rfl,h _ (I.aW.fresh (Zg _))⟩
inductive mI(x:V)(xs:List V)(H:Hp)(Q:VK):Prop
 |mk(l:ae)(bs:List Bool)(j:Nat)(aM:x=.ref l)(dh:xs=[.bl true])(bH:H l=some (.lst (bs.map V.bl)))(aF:bs[j]?=some true)(zX:(∀m,m<j->bs[m]?=some false))(By:(j:Int)<1000)(e6_:Q (.int j) H)
theorem q98:Gh X "list.index" mI:=by
 intro Y s S H x Z v us Q I K G h;obtain⟨l,bs,j,rfl,rfl,P,C,N,W,q⟩:=h;cases K;obtain⟨u,rfl,L⟩:=G.one;cases L;obtain⟨z,a,n,B,r⟩:=I.aW l _ P;have J:bs.length=a.length:=by have:=B.length;simpa using this
 have item:∀(m:Nat)(f:m<a.length),∃b,bs[m]?=some b/\a[m]=.bool b:=λm f=>by
  obtain⟨T,d,c⟩:=B.get (i:=m) (x:=V.bl (bs[m]'(by lia))) (by simp[show m<bs.length by lia]);refine⟨bs[m]'(by lia),by simp[show m<bs.length by lia],?_⟩;have:a[m]?=some a[m]:=by simp[f]
  rw[this]at d;cases d;exact c
 have g:j<a.length:=by rw[<- J];exact(cx C).1
 refine call_meets F.slot_list_index ⟨_,r,rfl⟩ F.entry_list_index (F.args_list_index_2 _ _) (MeetsSeq.list_index l a.toArray n (.bool true) (λy=>y==.bool true) (λy R=>?_) j (by simpa using g) 'a' ?_ ?_) ⟨r,?_⟩
 ·obtain⟨m,f,e⟩:=ZM.mp (show y∈a by simpa using R);obtain⟨b,_,c⟩:=item m f;rw[e]at c;subst c;intro k w A E U M O;refine SeqAt.EqAt.bool_bool b true k w E M ?_;cases b<;>exact O
 ·obtain⟨b,d,c⟩:=item j g;rw[C]at d;cases d;simpa using c
 ·intro m f p;have D:m<a.length:=by simpa using f
  obtain⟨b,d,c⟩:=item m D;rw[N m p]at d;cases d;have:a.toArray[m]=.bool false:=by simpa using c
  rw[this]
  rfl
 ·exact⟨.int j,H,I.tok _,⟨_,rfl⟩,q⟩
end
end L2
namespace L2
open PySem PySem.Spec PyProof.Rows
theorem xl2{a:TI}{te:TE}:Kg a te=uY 1 a (eZ 0) yp te:=by
 funext σ H Q;unfold Kg uY;congr 1;funext J H1;refine propext (Y0 λD=>Y0 λ_=>exists_congr λW=>WV λ_=>Y0 λi=>Y0 λm=>Y0 λf=>Y0 λe=>Y0 λ_=>WV λ_=>WV λ_=>or_congr_right (WV λ_=>Y0 λy=>Y0 λd=>Y0 λ_=>⟨λh c b=>?_,λh=>?_⟩))
 ·match c,b with
  |[o],_=>
   unfold eZ yp;dsimp only;rw[Zr rfl];exact h
 ·have z:=h [none] rfl;unfold eZ yp at z;dsimp only at z;rw[Zr rfl]at z;exact z
section
variable{X:Cx}
theorem oB{x:aq}{q b:aA}{a iter:ar}{scope:ax}{r:TI}{te:TE}(N:List aq)(g:ax)(M:X.N=N)(P:X.env.scope=g)(hc:X.calm=true)(v:X.N.Nodup)(O:PI X (.Name x q) iter r)(F:∀e C c f d,PE (gP X scope e C [x] c f d) a te)
  (K:scope.kind=.function:=by rfl) (A:scope.names.all (λy=>y.2 != .cell)=true:=by decide +kernel) (D:scope.names.all (λy=>y.2 != .local||scope.names.lookup y.1==some .local)=true:=by decide +kernel)
  (m:scope.names.lookup x=some .local:=by rfl) (B:N.all (λy=>scope.names.lookup y != some .local)=true:=by decide +kernel)
  (hfr:scope.names.all (λp=>p.2 != .free||(g.names.lookup p.1==some .cell||g.names.lookup p.1==some .free))=true:=by decide +kernel)
  (hs:∀x,foldedSetIterable iter X.env x=pure x:=by intro _;rfl):PE X (.ListComp a [⟨.Name x q,iter,[],0⟩] scope b) (Kg r te):=by
 obtain⟨G,S,u,J⟩:=HR M P A D B hfr;rw[xl2];refine MM (nn:=[x]) (λ_=>pure true) hc O (λL j k=>Ml a _ iter scope b L j k) (λe C c f d=>?_) (λy U w H R E h=>zg E h) (λe C c f d T s w H Q I h=>Zc ⟨H,I,h⟩) F K G S u J hs;have l:(gP X scope e C [x] c f d).env.scope.names.lookup x=some .local:=Xl m;exact AJ (i:=0) (YJ.mpr ⟨λz=>u x z m,v⟩) rfl (.inl l) (.inr l)
end
end L2
namespace L2
open PySem
theorem dZ{H:Hp}{a b:ae}{o u:HO}(e:H a=some o)(c:H b=none):upd H b u a=some o:=by rw[bo (ck e c)];exact e
theorem bF{H:Hp}{a:ae}{o:HO}(h:H a=none):aC H (upd H a o):=λb u e=>dZ e h
def dW(H a:Hp):Prop:=∀b u,H b=some (.tup u)->a b=some (.tup u)
theorem aC.cC{H a:Hp}(s:aC H a):dW H a:=λb u e=>s b _ e
theorem dW.trans{H d f:Hp}(a:dW H d)(b:dW d f):dW H f:=λc u e=>b c u (a c u e)
structure Goes(J:It)(H:Hp)(n:Nat)(item:Nat->V->Hp->Prop):Prop where
 go:∀i H2,i<n->aC H H2->J.go i H2
 yl:∀i H2 y H3,i<n->aC H H2->J.mV i H2 y H3->aC H2 H3/\item i y H3
 st:∀H2,aC H H2->J.stop n H2
theorem pA{K:PySem.W.Frag}{H:Hp}{a:ae}{xs:List V}(b:H a=some (.tup xs)):Goes (sO K a) H xs.length (λi y _=>xs[i]?=some y) where
 go:=λi d c s=>⟨xs,xs[i],aQ.of (s _ _ b),by simp[c]⟩
 yl:=λi d y f c s h=>by
  obtain⟨e,h⟩:=h;subst e;exact⟨aC.refl _,h xs (aQ.of (s _ _ b))⟩
 st:=λd s=>⟨xs,aQ.of (s _ _ b),Zg _⟩
theorem xl3{H:Hp}{n:Nat}:Goes (sP 0 n) H n (λi y _=>y=.int (i:Int)) where
 go:=λi b a s=>a
 yl:=λi b y c a s h=>by
  obtain⟨e,h⟩:=h;subst e;exact⟨aC.refl _,by rw[h,Int.zero_add]⟩
 st:=λb s=>Zg n
theorem UP{K:PySem.W.Frag}{H:Hp}{a:ae}{xs:List V}(b:H a=some (.tup xs)):Goes (Q6 K a) H xs.length (λi y d=>∃p x,y=.ref p/\xs[i]?=some x/\d p=some (.tup [.int i,x])) where
 go:=λi e c s=>⟨xs,xs[i],aQ.of (s _ _ b),by simp[c]⟩
 yl:=λi e y d c s h=>by
  obtain⟨p,x,g,f,rfl,rfl⟩:=h;exact⟨bF g,p,x,rfl,f xs (aQ.of (s _ _ b)),aX⟩
 st:=λe s=>⟨xs,aQ.of (s _ _ b),Zg _⟩
theorem oG{J:It}{H:Hp}{n:Nat}{item:Nat->V->Hp->Prop}{te:TE}{σ:St}{Fin:Hp->Prop}{D:ae}(B:H D=none)(c:Nat->V->Hp->Prop)(G:Goes J H n item)(hsz:n<sizeLine)
  (mono:∀i y C a,i<n->dW C a->c i y C->c i y a)
  (step:∀i x a,i<n->item i x a->aC H a->∀F:VK,(∀y f,aC a f->c i y f->F y f)->te (some x::σ) a F)
  (w:∀d a,aC H a->a D=some (.lst d)->d.length=n->(∀i y,d[i]?=some y->c i y a)->Fin a):
  ∃W:Nat->Nat->List V->Hp->Prop,(∃m,W 0 m [] (upd H D (.lst []))) /\
   ∀i m l a,W i m l a->a D=some (.lst l)/\l.length<sizeLine/\((J.stop i a/\Fin a)\/(J.go i a/\∀y f,J.mV i a y f ->
    te (some y::σ) f λv g=>g D=some (.lst l)/\∃I,I<m/\W (i+1) I (l++[v]) (upd g D (.lst (l++[v]))))):=by
 refine⟨λi m d a=>i<=n/\m=n-i/\d.length=i/\a D=some (.lst d)/\aC H a/\∀j y,d[j]?=some y->c j y a,⟨n,ZU _,rfl,rfl,aX,bF B,λj y h=>by simp at h⟩,?_⟩;rintro i m d a ⟨Q,rfl,E,s,p,q⟩;refine⟨s,by lia,?_⟩;by_cases N:i=n
 ·subst N;exact .inl ⟨G.st a p,w d a p s E q⟩
 ·refine .inr ⟨G.go i a 'a' p,λy f P=>?_⟩;obtain⟨r,O⟩:=G.yl i a y f 'a' p P;refine step i y f 'a' O (p.trans r) _ λv g A M=>?_;have K:=A _ _ (r _ _ s);refine⟨K,n-(i+1),by lia,by lia,rfl,by rw[Zk,E];rfl,aX,?_,?_⟩
  ·intro b o e;rw[bo (ck e B)];exact A _ _ (r _ _ (p _ _ e))
  ·have L:dW g (upd g D (.lst (d++[v]))):=λb u e=>by
    have:b≠D:=λz=>by subst z;rw[K]at e;cases e
    rw[bo this];exact e
   intro j z k;by_cases R:j<i
   ·rw[Zm 'a']at k;exact mono j z g _ 'a' L (mono j z a g 'a' (r.trans A).cC (q j z k))
   ·rw[Zs 'a']at k;have:j-d.length=0:=by
     have:=(cx k).1;simp at this;lia
    rw[this]at k;have:z=v:=by simpa using k.symm
    subst this;have:j=i:=by lia
    subst this;exact mono _ _ g _ 'a' L M
theorem LK{J:It}{H:Hp}{n k:Nat}{item:Nat->V->Hp->Prop}{g:TG}{K:TT}{te:TE}{σ:St}{Fin:Hp->Prop}{D:ae}(E:H D=none)(yes:Nat->Bool)(val:Nat->V)(G:Goes J H n item)(hsz:n<sizeLine)
  (step:∀i x a,i<n->item i x a->aC H a->∀f:St,f.length=k->∀(C:Hp->Prop)(I:VK),(yes i=false->∀c,aC a c->C c)->(yes i=true->∀c,aC a c->I (val i) c) ->
   g x (f++σ) a λl q=>K l q λb j=>if b=true then te l j I else C j)
  (B:∀a,aC H a->a D=some (.lst (((List.range n).filter yes).map val))->Fin a):
  ∃W:Nat->Nat->List V->Hp->Prop,(∃m,W 0 m [] (upd H D (.lst []))) /\
   ∀i m d a,W i m d a->a D=some (.lst d)/\d.length<sizeLine/\((J.stop i a/\Fin a)\/(J.go i a/\∀y c,J.mV i a y c->∀f:St,f.length=k ->
    g y (f++σ) c λl q=>K l q λb j=>if b=true then te l j λv F=>F D=some (.lst d)/\∃r,r<m/\W (i+1) r (d++[v]) (upd F D (.lst (d++[v])))else ∃r,r<m/\W (i+1) r d j)):=by
 refine⟨λi m w a=>i<=n/\m=n-i/\w=((List.range i).filter yes).map val/\a D=some (.lst w)/\aC H a,⟨n,ZU _,rfl,rfl,aX,bF E⟩,?_⟩;rintro i m w a ⟨T,rfl,A,u,h⟩;have S:w.length<=i:=by
  rw[A,Ze];exact ZN (List.length_filter_le _ _) 'b'
 refine⟨u,by lia,?_⟩;by_cases M:i=n
 ·subst M;exact .inl ⟨G.st a h,B a h (A▸u)⟩
 ·refine .inr ⟨G.go i a 'a' h,λy c R f L=>?_⟩;obtain⟨s,P⟩:=G.yl i a y c 'a' h R;refine step i y c 'a' P (h.trans s) f L _ _ (λO q p=>?_) (λN q p=>?_)
  ·refine⟨n-(i+1),by lia,by lia,rfl,?_,p _ _ (s _ _ u),(h.trans s).trans p⟩;rw[A,XE,List.filter_append];simp[O]
  ·have Q:=p _ _ (s _ _ u);refine⟨Q,n-(i+1),by lia,by lia,rfl,?_,aX,λb o e=>?_⟩
   ·rw[A,XE,List.filter_append];simp[N]
   ·rw[bo (ck e E)];exact p _ _ (s _ _ (h _ _ e))
theorem zk{X:Cx}(K:PySem.W.Frag)(h:X.K=K):r_ X (x8 K):=h▸jv
theorem ixT{X:Cx}(K:PySem.W.Frag)(h:X.K=K):r_ X (x5 K):=h▸gb
theorem l6{X:Cx}(K:PySem.W.Frag)(h:X.K=K):iO X (.type "tuple") (de K):=h▸Ih
theorem vt{X:Cx}{b l:ar}{a:TE}(K:PySem.W.Frag)(h:X.K=K)(c:PE X l a):PI X b l (Ej K a):=h▸sr c
theorem piL{X:Cx}{b l:ar}{a:TE}(K:PySem.W.Frag)(h:X.K=K)(c:PE X l a):PI X b l (Ki K a):=h▸Mp c
end L2
namespace Pr
open PySem L2
abbrev uX:ay:=top 14
abbrev uW:ay:=top 15
abbrev ym:ay:=top 16
abbrev qv:ay:=top 17
abbrev AD:ay:=top 18
abbrev uV:ay:=top 19
abbrev HE:ay:=top 20
abbrev IK:ay:=ku (top 21) 0
abbrev C7:ay:=ku (top 21) 1
abbrev Mg:ay:=ku (top 21) 2
abbrev yk:ay:=top 24
abbrev GZ:ay:=top 25
abbrev tL:ay:=top 27
abbrev l_:ay:=top 28
abbrev tS:ay:=top 29
abbrev vf:ay:=top 30
abbrev tG:ay:=top 31
abbrev uU:ay:=top 32
abbrev uT:ay:=top 33
abbrev Dp:ay:=top 39
abbrev AY:ay:=top 40
abbrev GY:ay:=top 41
abbrev IJ:ay:=top 42
abbrev Mf:ay:=ku (top 43) 0
abbrev II:ay:=ku (top 43) 1
abbrev ve:ay:=top 44
abbrev SO:ay:=top 45
abbrev Cq:ay:=top 46
abbrev MI:ay:=top 47
abbrev Me:ay:=top 48
abbrev GV:ay:=top 49
abbrev Ka:ay:=top 50
abbrev CT:ay:=top 51
abbrev MH:ay:=top 52
abbrev IH:ay:=top 53
abbrev Ip:ay:=top 54
abbrev Io:ay:=top 56
abbrev tR:ay:=top 57
abbrev HD:ay:=top 58
abbrev A8:ay:=top 59
abbrev yj:ay:=top 60
abbrev GJ:ay:=top 61
abbrev AX:ay:=top 62
abbrev C6:ay:=top 63
abbrev t7:ay:=top 64
abbrev GH:ay:=top 65
abbrev HC:ay:=top 66
abbrev HB:ay:=top 67
abbrev t8:ay:=top 68
abbrev HA:ay:=top 69
abbrev HZ:ay:=top 70
abbrev lM:ay:=top 71
end Pr
namespace L2
open PySem PySem.Spec PyProof.Rows
theorem cZ{N P:List aq}{h:ax}(a:h.kind=.function:=by rfl)(b:h.isCoroutine=false:=by rfl)(c:h.isGenerator=false:=by rfl)(d:N.Nodup:=by decide +kernel)(e:N.take P.length=P:=by rfl)(f:∀x∈P,h.names.lookup x=some .local\/h.names.lookup x=some .cell:=by decide +kernel)(g:∀y∈h.names,y.2≠.free:=by decide +kernel):aE N P h:=⟨a,b,c,d,e,f,g⟩
section
variable{X:Cx}
theorem eI(i:Nat){x:aq}{e:ar}{te:TE}{b a:aA}(d:X.N.Nodup)(c:PE X e te)(g:X.N[i]?=some x:=by rfl)(f:Loc X.env.scope x:=by first|left;rfl|right;rfl)(hs:swapsWith e (some (.Name x a)) b.line X.env=pure false:=by rfl)(h:X.fn x=true\/X.env.scope.names.lookup x=some .local:=by first|left;rfl|right;rfl|assumption):PS X (.Assign [.Name x a] e b) (lu te (eZ i)):=R_ d g f c hs h
theorem dj(i:Nat){x:aq}{a:aA}(b:X.N.Nodup)(d:X.N[i]?=some x:=by rfl)(c:Loc X.env.scope x:=by first|left;rfl|right;rfl)(e:X.fn x=true\/X.env.scope.names.lookup x=some .local:=by first|left;rfl|right;rfl|assumption):PG X (.Name x a) (eZ i):=AJ b d c e
theorem bZ{k:Nat}{f:ae}{b:ai}{ps:List aq}{sp:Sp}{x:aq}{p a:aA}{e:ar}{es:List ar}{t:TA}(F:aB X.prog X.w X.K X.mg X.base aJ k f b ps sp)(h:aS k X.A)(c:X.mg x=some (.ref f))(j:PySem.W.keepIn X.K (.ref f)=true)(hb:Binds X.K b ps [])(g:PA X (e::es) t)(l:Gl X x:=by rfl)(m:(x==("__debug__":aq))=false:=by decide)(d:starEach (e::es) X.env=(false,eval e X.env)::starEach es X.env:=by rfl)(i:(backTo a (starEach es X.env)).any (·.1)=false:=by rfl):
  PE X (.Call (.Name x p) (e::es) [] a) (Th sp [] E0 t):=jw F h l c j hb .nil tU g m d i
theorem cO{r:R2}{a b:ar}{c:aA}{d tb:TE}(e:r_ X r)(f:PE X a d)(hb:PE X b tb)(hs:VZ b:=by intro _ _;rfl):PE X (.Subscript a b c) (nh r d tb):=Te e f hb hs
end
end L2
namespace Pr
open PySem L2 Qf
structure d_(mg:aq->Option aa):Prop where
 m9:mg "isinstance"=none
 int:mg "int"=none
 bool:mg "bool"=none
 tuple:mg "tuple"=none
 list:mg "list"=none
 set:mg "set"=none
 len:mg "len"=none
 all:mg "all"=none
 any:mg "any"=none
 enum:mg "enumerate"=none
 range:mg "range"=none
 max:mg "max"=none
 min:mg "min"=none
structure lh(mg:aq->Option aa):Prop where
 first:∃t,mg "FIRST"=some (.int 2 t)
 full:∃t,mg "FULL"=some (.int 1 t)
 great:∃t,mg "GREATEST_SIZE"=some (.int 12 t)
def vN(r:List Nat):List V:=r.map λn:Nat=>V.int (n:Int)
theorem dM(r:List Nat):(vN r).length=r.length:=Ze ..
theorem mZ{r:List Nat}{i:Nat}{x:V}(h:(vN r)[i]?=some x):∃n:Nat,r[i]?=some n/\x=.int (n:Int):=by
 unfold vN at h;rw[Zf]at h;obtain⟨n,h1,h2⟩:=Zp.mp h;exact⟨n,h1,h2.symm⟩
theorem tQ{r:List Nat}{i n:Nat}(h:r[i]?=some n):(vN r)[i]?=some (.int (n:Int)):=by
 unfold vN;rw[Zf,h];rfl
theorem sj{r:List Nat}{i n:Nat}(h:r[i]?=some n):Ad (vN r) (i:Int)=some (.int (n:Int)):=kr (tQ h)
theorem si(r:List Nat):vN r=(r.map λn:Nat=>(n:Int)).map V.int:=by unfold vN;rw[Xm];rfl
def bq(H:Hp)(p:ae)(rows:List Row):Prop:=∃bs:List ae,H p=some (.tup (bs.map V.ref))/\bs.length=rows.length/\∀(i:Nat) b r,bs[i]?=some b->rows[i]?=some r->H b=some (.tup (vN r))
theorem bq.mono{H a:Hp}{p:ae}{rows:List Row}(h:bq H p rows)(t:dW H a):bq a p rows:=by
 obtain⟨bs,h1,h2,e⟩:=h;exact⟨bs,t _ _ h1,h2,λi b r d c=>t _ _ (e i b r d c)⟩
theorem bq.same{H a:Hp}{p:ae}{rows:List Row}(h:bq H p rows)(t:aC H a):bq a p rows:=h.mono t.cC
def ft(H:Hp)(p:ae)(rows:List Row):Prop:=∃bs:List ae,(H p=some (.tup (bs.map V.ref))\/H p=some (.lst (bs.map V.ref)))/\bs.length=rows.length/\∀(i:Nat) b r,bs[i]?=some b->rows[i]?=some r->H b=some (.tup (vN r))
theorem bq.zs{H:Hp}{p:ae}{rows:List Row}(h:bq H p rows):ft H p rows:=let ⟨bs,a,b,c⟩:=h;⟨bs,.inl a,b,c⟩
theorem ft.same{H a:Hp}{p:ae}{rows:List Row}(h:ft H p rows)(s:aC H a):ft a p rows:=by
 obtain⟨bs,h1,h2,e⟩:=h;exact⟨bs,h1.imp (s _ _) (s _ _),h2,λi b r d c=>s _ _ (e i b r d c)⟩
def x6(K:PySem.W.Frag):R2:=λx y H Q=>x8 K x y H Q\/x5 K x y H Q
theorem ixS{X:Cx}(K:PySem.W.Frag)(h:X.K=K):r_ X (x6 K):=(zk K h).or (ixT K h)
section
variable{mg:aq->Option aa}{base:ao}
theorem SN:aE ["thing"] ["thing"] (cg uX):=cZ
inductive qg(vs:List V)(H:Hp)(Q:VK):Prop
 |mk(i:Int)(e0:vs=[.int i])(e1:Q (.bl true) H)
def Md:Sp:=λa H Q _=>qg a H Q
theorem Ua{f:ae}{b:ai}(F:aP K "is_whole" "is_whole" uX f b)(B:d_ mg):aB P w K mg base aJ 1 f b ["thing"] Md:=by
 refine F.ok SN (λc H Q E h=>?_) (λe A a s H c Q E d h=>?_)
 ·obtain⟨i,rfl,_⟩:=h
  rfl
 ·obtain⟨i,rfl,q⟩:=h;refine⟨_,cm (cj (su (cQ nI 'd' B.m9 ZA (aD (pv 0) (aD (pT (v:=.ty "int") 'd' B.int YW rfl) aH)))
   (sy (Sa (cQ nI 'd' B.m9 ZA (aD (pv 0) (aD (pT (v:=.ty "bool") 'd' B.bool PyProof.Rows.boot_bool rfl) aH))))))),?_⟩
  exact⟨_,rfl,_,_,_,_,true,rfl,rfl,.inl (.int i),rfl,_,rfl,cB ⟨_,rfl,_,_,_,_,false,rfl,rfl,.inl (.int i),rfl,_,rfl,q⟩⟩
theorem RX:aE ["thing"] ["thing"] (cg yk):=cZ
inductive sY(vs:List V)(H:Hp)(Q:VK):Prop
 |mk(n:Nat)(e0:vs=[.int n])(e1:n<=12)(e2:Q (.bl true) H)
def KQ:Sp:=λa H Q _=>sY a H Q
theorem xz2{f c:ae}{g b:ai}(F:aP K "is_size" "is_size" yk f g)(B:d_ mg)(T:lh mg)(m:mg "is_whole"=some (.ref c))(d:aP K "is_whole" "is_whole" uX c b)(k:Binds K b ["thing"] []):aB P w K mg base aJ 2 f g ["thing"] KQ:=by
 have i:aB P w K mg base aJ 1 c b ["thing"] Md:=Ua d B;obtain⟨r,p⟩:=T.great;refine F.ok RX (λl H Q E h=>?_) (λy A a s H l Q E j h=>?_)
 ·obtain⟨x,rfl,_⟩:=h
  rfl
 ·obtain⟨n,rfl,u,q⟩:=h;refine⟨_,cm (cj (su (bZ i j m d.kp k (aD (pv 0) aH)) (sy (HH tV tV aR (pv 0) (cX (v:=.int 12) 'd' p ⟨_,rfl⟩))))),?_⟩;refine⟨_,rfl,n,rfl,_,rfl,cB ⟨_,rfl,_,_,rfl,rfl,_,rfl,?_⟩⟩;have e:decide ((n:Int)<=12)=true:=Zq 'a';refine dD (λ_=>⟨_,_,rfl,rfl,?_⟩) (λh1=>absurd (Zq (W8 n)) h1);rw[e];exact q
theorem T_:aE ["thing","many"] ["thing","many"] (cg tL):=cZ
inductive o6(vs:List V)(H:Hp)(Q:VK):Prop
 |mk(n m:Nat)(e0:vs=[.int n,.int m])(e1:n<m+2)(e2:Q (.bl true) H)
def Hu:Sp:=λa H Q _=>o6 a H Q
theorem xa3{f c:ae}{g b:ai}(F:aP K "is_number" "is_number" tL f g)(B:d_ mg)(T:lh mg)(r:mg "is_whole"=some (.ref c))(d:aP K "is_whole" "is_whole" uX c b)(k:Binds K b ["thing"] []):aB P w K mg base aJ 2 f g ["thing","many"] Hu:=by
 have i:aB P w K mg base aJ 1 c b ["thing"] Md:=Ua d B;obtain⟨y,l⟩:=T.first;refine F.ok T_ (λp H Q E h=>?_) (λx A a s H p Q E j h=>?_)
 ·obtain⟨n,m,rfl,_⟩:=h
  rfl
 ·obtain⟨n,m,rfl,u,q⟩:=h;refine⟨_,cm (cj (su (bZ i j r d.kp k (aD (pv 0) aH)) (sy (HH tV mi aR (pv 0) (cy iR (pv 1) (cX (v:=.int 2) 'd' l ⟨_,rfl⟩)))))),?_⟩;refine⟨_,rfl,n,rfl,_,rfl,cB ⟨_,rfl,_,_,rfl,rfl,_,rfl,?_⟩⟩;have e:decide ((n:Int)<(m:Int)+2)=true:=Zq 'a';refine dD (λ_=>⟨_,rfl,_,_,rfl,rfl,_,_,rfl,rfl,?_⟩) (λh1=>absurd (Zq (W8 n)) h1);rw[e];exact q
theorem xz3:aE ["row"] ["row"] (cg uW):=cZ
inductive qm(vs:List V)(H:Hp)(Q:VK):Prop
 |mk(b:ae)(r:Row)(e0:vs=[.ref b])(e1:H b=some (.tup (vN r)))(e2:r.length=4)(e3:∀H',aC H H'->Q (.bl (decide (fJ r))) H')
def IG:Sp:=λa H Q _=>qm a H Q
theorem IF{l m:List Nat}(h:(l.map λn:Nat=>(n:Int))=m.map λn:Nat=>(n:Int)):l=m:=by
 induction l generalizing m with
 |nil=>cases m with
  |nil=>rfl
  |cons b m=>simp at h
 |cons a l c=>cases m with
  |nil=>simp at h
  |cons b m=>
   rw[ZL,ZL]at h;injection h with h1 h2
   rw[c h2,Int.ofNat.inj h1]
theorem MG{f:ae}{y:ai}(F:aP K "is_plain" "is_plain" uW f y)(T:lh mg):aB P w K mg base aJ 2 f y ["row"] IG:=by
 obtain⟨M,D⟩:=T.first;refine F.ok xz3 (λG H Q E h=>?_) (λJ A i s H G Q E C h=>?_)
 ·obtain⟨b,r,rfl,_⟩:=h
  rfl
 ·obtain⟨b,r,rfl,hb,I,q⟩:=h;refine⟨_,cm (cj (su (oy mi (cO gb (pv 0) aR) (cX (v:=.int 2) 'd' D ⟨_,rfl⟩) (cP _))
   (sy (oy (Iu C) (pv 0) (cy xy4 (kq (aD (cO gb (pv 0) aR) aH)) aR) (cP _))))),?_⟩
  match r,I with
  |[a,g,c,d],_=>
   refine⟨_,rfl,b,_,0,.int a,rfl,rfl,aQ.of hb,rfl,_,_,rfl,rfl,_,rfl,?_⟩;refine dD (λj=>?_) (λj=>?_)
   ·have h2:a<2:=by have:=ZI j;lia
    refine⟨_,rfl,_,rfl,b,_,0,.int a,rfl,rfl,aQ.of hb,rfl,(by show 1<=sizeLine;decide),λp k=>⟨p,4,.int a,rfl,rfl,aX,by decide,by decide,λL x=>?_⟩⟩;have B:=dZ (u:=.tup (List.replicate 4 (V.int a))) (dZ (u:=.tup [V.int a]) hb k) x;refine⟨dT [(a:Int),(g:Int),(c:Int),(d:Int)],dT [(a:Int),(a:Int),(a:Int),(a:Int)],.tup B (aT.ints [(a:Int),(g:Int),(c:Int),(d:Int)]),.tup aX (aT.ints [(a:Int),(a:Int),(a:Int),(a:Int)]),M3 _,M3 _,(by show 1<=60;decide),?_⟩;rw[xH6];have e:decide (([(a:Int),(g:Int),(c:Int),(d:Int)]:List Int)=([(a:Int),(a:Int),(a:Int),(a:Int)]:List Int))=decide (fJ [a,g,c,d]):=by
     congr 1;apply propext;unfold fJ;constructor
     ·intro z;have:[a,g,c,d]=[a,a,a,a]:=IF (l:=[a,g,c,d]) (m:=[a,a,a,a]) z;have:a=0\/a=1:=by lia
      rcases this with rfl|rfl
      ·exact .inl ‹_›
      ·exact .inr ‹_›
     ·rintro(z|z)<;>(cases z;rfl)
    rw[e];exact q _ ((bF k).trans (bF x))
   ·have h2:¬a<2:=λz=>j (Zq 'a');have e:decide (fJ [a,g,c,d])=false:=Zy (by
     rintro(z|z)<;>(cases z;lia))
    have:=q H (aC.refl H);rw[e]at this;exact this
end
end Pr
namespace Qf
theorem xz4(l:List Nat)(a:Nat):mx (l++[a])=max (mx l) a:=by
 induction l with
 |nil=>show max a 0=max 0 a;lia
 |cons b l c=>show max b (mx (l++[a]))=max (max b (mx l)) a;rw[c];lia
theorem SM(l:List Nat):∀k,k<l.length->L2.best (l.map λn:Nat=>(n:Int)) k=(mx (l.take (k+1)):Nat)
 |0,h=>by
  cases l with
  |nil=>simp at h
  |cons a l=>show((a:Nat):Int)=((max a 0:Nat):Int);simp
 |k+1,h=>by
  have b:=SM l k 'a';have e:(l.map λn:Nat=>(n:Int)).getD (k+1) 0=((l[k+1]:Nat):Int):=by simp[List.getD,h]
  have t:l.take (k+1+1)=l.take (k+1)++[l[k+1]]:=by rw[YI h]
  unfold L2.best;rw[e,b,t,xz4];split<;>lia
theorem T9{l:List Nat}(h:l≠[]):L2.best (l.map λn:Nat=>(n:Int)) ((l.map λn:Nat=>(n:Int)).length-1)=(mx l:Nat):=by
 have a:0<l.length:=Xq.mpr h;rw[Ze,SM l (l.length-1) 'a',show l.length-1+1=l.length by lia,Y9]
theorem UO{rows:List Row}{i:Nat}{r:Row}(h:rows[i]?=some r):fm (rows.take (i+1))=fm (rows.take i)++[1+mx (r.map (dp (rows.take i)))]:=by
 have b:=(cx h).1;have a:=(cx h).2;rw[<- HP,<- a,YI b]
theorem AW{rows:List Row}{x:Nat}(h:x<rows.length+2):(fm rows)[x]?=some (dp rows x):=by
 unfold dp;rw[Zt];have:x<(fm rows).length:=by rw[sC];exact h
 rw[Zd this];rfl
end Qf
namespace Pr
open PySem L2 Qf
theorem pz{xs ys:List V}(a:xs.length=ys.length)(h:∀(i:Nat) x,xs[i]?=some x->ys[i]?=some x):xs=ys:=by
 refine XV λi=>?_;cases e:xs[i]? with
 |some x=>exact(h i x e).symm
 |none=>
  have:xs.length<=i:=List.getElem?_eq_none_iff.mp e;exact(Yc 'a').symm
section
variable{mg:aq->Option aa}{base:ao}
theorem lF:aE ["rows","depths","row"] ["rows"] (cg ym):=cZ
inductive s_(vs:List V)(H:Hp)(Q:VK):Prop
 |mk(p:ae)(rows:List Row)(e0:vs=[.ref p])(e1:bq H p rows)(e2:cz rows)(e3:rows.length<=900)(e4:∀H' D,aC H H'->H' D=some (.lst (vN (fm rows)))->Q (.ref D) H')
def Im:Sp:=λa H Q _=>s_ a H Q
theorem Mc{f:ae}{T:ai}(F:aP K "depths_of" "depths_of" ym f T)(B:d_ mg):aB P w K mg base aJ 1 f T ["rows"] Im:=by
 refine F.ok lF (λvs H Q E h=>?_) (λbp A O s H vs Q E hr h=>?_)
 ·obtain⟨p,rows,rfl,_⟩:=h
  rfl
 ·obtain⟨p,rows,rfl,hR,ok,hn,q⟩:=h;refine⟨_,dG (eI 1 lF.nd (iI (aD aR (aD aR aH))))
   (dG (o_ Yj rfl (sr (pv 0)) (dj 2 lF.nd)
    (cm (ip (vo Ye Ym Yn tP (pv 1) (aD (cy iR aR (cQ (UQ rfl) 'd' B.max WH
     (aD (oB ["rows","depths","row"] (cg ym) rfl rfl rfl lF.nd (sr (pv 2)) (λcl C fp aG aK=>cO (zk K rfl) (pv 2) (pv 0))) aH))) aH)))))
   (cm (cj (pv 1)))),?_⟩
  refine⟨(by show 2<=sizeLine;decide),λD N=>?_⟩;obtain⟨bs,U,j7,Z⟩:=id hR;have jJ:=dZ (u:=.lst [.int 0,.int 0]) U N;have W:(bs.map V.ref).length=rows.length:=by rw[Ze];exact j7
  refine⟨_,rfl,p,rfl,⟨_,aQ.of jJ⟩,CD (K:=K) (a:=p) (xs:=bs.map V.ref) (λi v g=>aC H g/\g D=some (.lst (vN (fm (rows.take i))))/\∃L,v=[some (.ref p),some (.ref D),L])
   ⟨bF N,aX,none,rfl⟩ (λi v g _ ⟨c,_⟩=>aQ.of (c _ _ U)) ?_ ?_⟩
  ·rintro i y v g R ⟨c,d,L,rfl⟩;have hi:i<rows.length:=by rw[<- W];exact(cx R).1
   rw[Zf]at R;obtain⟨b,hb,rfl⟩:=Zp.mp R;have I:rows[i]?=some rows[i]:=by simp[hi]
   have M:=c _ _ (Z i b rows[i] hb I);have G:=ok i _ I;have X:(rows.take i).length=i:=by rw[ZT];lia
   have kH:∀x,x<i+2->(fm (rows.take i))[x]?=some (dp (rows.take i) x):=λx k=>AW (by rw[X];exact k);generalize rows[i]=r at I M G;refine⟨_,rfl,.inl ⟨rfl,_,bY.of d⟩,_,rfl,b,rfl,⟨_,aQ.of M⟩,λD2 kJ=>oG kJ (λj z _=>∃x,r[j]?=some x/\z=.int (dp (rows.take i) x:Nat)) (pA (K:=K) M) (by rw[dM,G.1];decide) (λ_ _ _ _ _ _ h=>h) ?_ ?_⟩
   ·intro j x H3 hj k J Q' hq;obtain⟨m,l,rfl⟩:=mZ k;have j8:=G.2 m (Zo l);exact⟨_,rfl,_,rfl,D,_,(m:Int),.int (dp (rows.take i) m:Nat),rfl,rfl,bY.of (J _ _ d),sj (kH m j8),hq _ _ (aC.refl _) ⟨m,l,rfl⟩⟩
   ·intro S H3 J jZ jU jS;have ey:S=(r.map (dp (rows.take i))).map (λn:Nat=>V.int (n:Int)):=by
     refine pz (by rw[jU,dM,Ze,Ze]) λj x k=>?_;obtain⟨m,l,rfl⟩:=jS j x k;rw[Zf,Zf,l];rfl
    have e2:S=((r.map (dp (rows.take i))).map (λn:Nat=>(n:Int))).map V.int:=ey.trans (si _);have Y:r.map (dp (rows.take i))≠[]:=λz=>by
     have:=Yo List.length z;rw[Ze,G.1]at this;cases this
    refine⟨D2,(r.map (dp (rows.take i))).map (λn:Nat=>(n:Int)),rfl,e2▸jZ,λz=>Y (Xs.mp z),_,_,rfl,rfl,?_⟩;rw[T9 Y];have kY:=J _ _ d;refine⟨D,_,_,rfl,rfl,kY,?_,?_⟩
    ·rw[dM,sC,X];exact oH 'a'
    ·have nD:∀b o,H b=some o->b≠D:=λb o e=>ck e N;refine⟨λb o e=>by rw[bo (nD b o e)];exact J _ _ (c _ _ e),?_,_,rfl⟩;rw[aX,UO I];unfold vN;rw[ZW]
     rfl
  ·rintro v g ⟨c,d,L,rfl⟩;refine⟨_,rfl,q g D c ?_⟩;rw[W,Y9]at d;exact d
end
end Pr
namespace Qf
theorem CM{rows:List Row}{e:List Nat}(h:dX rows e):e.length<=rows.length:=by
 have:=h.nd.length_le_of_subset (l₂:=List.range rows.length) λp a=>ZX.mpr (h.lt p a);simpa using this
theorem CQ{rows:List Row}(ok:cz rows){d p:Nat}{r:Row}(a:rows[p]?=some r)(h:dp rows (p+2)<=d+1):∀(l e:List Nat),(∀q∈l,q∈r)->dX rows e->dX rows (l.foldl (cu rows d) e)
 |[],_,_,b=>b
 |q::l,e,g,b=>by
  have f:=g q Zw;have k:=(ok p r a).2 q f;have j:=(cx a).1;have c:dp rows q<=d:=by
   have:=yo (ZV.mpr ⟨q,f,rfl⟩:dp rows q∈r.map (dp rows));have e:=pN ok a;lia
  exact CQ ok a h l _ (λz i=>g z (Zn _ i)) (pU ok d e q b 'a' c).1
theorem yi{rows:List Row}(ok:cz rows){d p:Nat}{r:Row}(a:rows[p]?=some r)(c:dp rows (p+2)<=d+1){q:Nat}(b:q∈r):q<rows.length+2/\dp rows q<=d:=by
 have g:=(ok p r a).2 q b;have f:=(cx a).1;have:=yo (ZV.mpr ⟨q,b,rfl⟩:dp rows q∈r.map (dp rows));have e:=pN ok a;exact⟨by lia,by lia⟩
theorem uS{rows:List Row}(ok:cz rows){x:Nat}(b:x<rows.length+2)(h:dp rows x<=0):x<2:=by
 by_cases z:x<2
 ·exact z
 ·exfalso;have a:x-2<rows.length:=by lia
  have:=pN ok (ou a);rw[show x-2+2=x by lia]at this;lia
end Qf
namespace Pr
open PySem L2 Qf
theorem ml{n:Nat}(h:n<=1191000):n<sizeLine:=YX h 'c'
def bJ(e:ae)(H a:Hp):Prop:=∀b o,H b=some o->b≠e->a b=some o
theorem bJ.refl(e:ae)(H:Hp):bJ e H H:=λ_ _ h _=>h
theorem bJ.trans{e:ae}{H f d:Hp}(a:bJ e H f)(b:bJ e f d):bJ e H d:=λc o h n=>b c o (a c o h n) n
theorem bJ.upd{e:ae}{H:Hp}{o:HO}:bJ e H (upd H e o):=λb u h n=>by rw[bo n];exact h
theorem bJ.of{e:ae}{H a:Hp}(h:aC H a):bJ e H a:=λb o q _=>h b o q
theorem bJ.cC{e:ae}{H c:Hp}(h:bJ e H c){o:HO}(a:H e=some o)(no:∀u,o≠.tup u):dW H c:=λb u q=>h b _ q λz=>by
 subst z;rw[q]at a;exact no u (Zu a).symm
def eK(es:List Nat):List (Key×V):=es.map λp:Nat=>(Sum.inl (p:Int),V.bl true)
theorem RW(es:List Nat)(p:Nat):(br (eK es) (Sum.inl (p:Int))).isSome=decide (p∈es):=by
 rw[<- pV];unfold eK;rw[List.any_map];by_cases h:p∈es
 ·rw[Zq h,Wd];exact⟨p,h,by simp⟩
 ·rw[Zy h,Wu];intro q a;simp only[Function.comp,decide_eq_true_eq];intro z;have:(q:Int)=p:=Vc z;exact h (by rw[<- Int.ofNat.inj this];exact a)
theorem xI4{es:List Nat}{p:Nat}(h:p∉es):putK (eK es) (Sum.inl (p:Int)) (.bl true)=eK (es++[p]):=by
 unfold putK;have:=RW es p;rw[<- pV,Zy h]at this;rw[Zi (by rw[this];decide)];unfold eK;rw[ZW];rfl
section
variable{mg:aq->Option aa}{base:ao}
theorem qp:aE ["rows","number","ended","quarter"] ["rows","number","ended"] (cg qv):=cZ
inductive xQ(d:Nat)(vs:List V)(H:Hp)(Q:VK):Prop
 |mk(p e:ae)(x:Nat)(rows:List Row)(es:List Nat)(e0:vs=[.ref p,.int (x:Nat),.ref e])(e1:ft H p rows)(e2:cz rows)(e3:rows.length<=1190900)(e4:x<rows.length+2)(e5:dp rows x<=d)(e6:dX rows es)(e7:H e=some (.dK (eK es)))(e8:∀H',bJ e H H'->H' e=some (.dK (eK (cu rows d es x)))->Q .cA H')
def SY(d:Nat):Sp:=λa H Q _=>xQ d a H Q
theorem xI6{f:ae}{fd:ai}(F:aP K "end_rows" "end_rows" qv f fd)(T:lh mg)(hE:mg "end_rows"=some (.ref f))(bE:Binds K fd ["rows","number","ended"] []):∀d,aB P w K mg base aJ (d+1) f fd ["rows","number","ended"] (SY d):=by
 obtain⟨tf,I⟩:=T.first;intro d
 induction d with
 |zero=>
  refine F.ok qp (λvs H Q E h=>?_) (λbp A C s H vs Q E W h=>?_)
  ·obtain⟨p,e,x,rows,a,rfl,_⟩:=h
   rfl
  ·obtain⟨p,e,x,rows,a,rfl,hR,ok,hn,hx,S,X,l,q⟩:=h;have O:A.units+3+1<cLine:=by have:=W.un;exact YX (YQ _ _) (show A.units+3+1+199<cLine from by simpa using this)
   have L:=uS ok hx S;refine⟨_,dG (c9 (jr (dI mi (pv 1) (cX (v:=.int 2) 'd' I ⟨_,rfl⟩) (cP _)) (m7 (uZ (Iy O (cy pQ (pv 1) (cX (v:=.int 2) 'd' I ⟨_,rfl⟩)) (pv 2))))).pt (cm IW) c_) m8,?_⟩;refine⟨_,rfl,_,_,rfl,rfl,_,rfl,?_⟩;exact Dx (show(x:Int)<2 by lia) (cB (q H (bJ.refl e H) l))
 |succ d ih=>
  refine F.ok qp (λvs H Q E h=>?_) (λbp A C s H vs Q E W h=>?_)
  ·obtain⟨p,e,x,rows,a,rfl,_⟩:=h
   rfl
  ·obtain⟨p,e,x,rows,a,rfl,hR,ok,hn,hx,S,X,l,q⟩:=h;have O:A.units+3+1<cLine:=by have:=W.un;exact YX (YQ _ (16*(d+1)+199)) (show A.units+3+1+(16*(d+1)+199)<cLine from by
    have h2:A.units+3+16*(d+1)+200<cLine:=this;lia)
   refine⟨_,dG (c9 (jr (dI mi (pv 1) (cX (v:=.int 2) 'd' I ⟨_,rfl⟩) (cP _)) (m7 (uZ (Iy O (cy pQ (pv 1) (cX (v:=.int 2) 'd' I ⟨_,rfl⟩)) (pv 2))))).pt (cm IW) c_)
    (dG (o_ Yj rfl (sr (cO (ixS K rfl) (pv 0) (cy pQ (pv 1) (cX (v:=.int 2) 'd' I ⟨_,rfl⟩)))) (dj 3 qp.nd)
     (cm (ip (bZ ih W hE F.kp bE (aD (pv 0) (aD (pv 3) (aD (pv 2) aH)))))))
    (cm (AE O (pv 2) (cy pQ (pv 1) (cX (v:=.int 2) 'd' I ⟨_,rfl⟩)) js 'd'))),?_⟩
   refine⟨_,rfl,_,_,rfl,rfl,_,rfl,?_⟩;unfold cu at q;refine dD (λhc=>?_) (λhc=>?_)
   ·have L:x<2:=by have:=ZI hc;lia
    rw[Zr (.inl L)]at q;exact cB (q H (bJ.refl e H) l)
   ·have L:¬x<2:=λz=>hc (Zq 'a');have ex:(x:Int)-2=((x-2:Nat):Int):=by lia
    have dg:cS H e (.int ((x:Int)-2)) (br (eK a) (Sum.inl ((x-2:Nat):Int))):=by rw[ex];exact cS.k (k:=Sum.inl ((x-2:Nat):Int)) l
    refine⟨_,rfl,_,_,rfl,rfl,_,rfl,e,_,rfl,dg,_,rfl,?_⟩;rw[RW];refine dD (λD=>?_) (λD=>?_)
    ·rw[Zr (.inr (ZI D))]at q;exact q H (bJ.refl e H) l
    ·have N:x-2∉a:=λz=>D (Zq z);rw[Zi (by rintro(z|z);exact L z;exact N z)]at q;have j8:x-2<rows.length:=by lia
     have J:=ou j8;generalize rows.getD (x-2) []=r at q J;obtain⟨bs,G,j7,Y⟩:=id hR;have vU:dp rows (x-2+2)<=d+1:=by rw[show x-2+2=x by lia];exact S
     have Z:bs[x-2]?=some (bs[x-2]'(by lia)):=by simp[show x-2<bs.length by lia]
     have k8:=Y (x-2) _ r Z J;have nbe:∀b∈bs,b≠e:=λb hb z=>by
      obtain⟨j,hj,ej⟩:=ZM.mp hb;have:=Y j b (rows[j]'(by lia)) (by rw[Zd hj,ej]) (Zd 'a');rw[z,l]at this;cases this
     have M:p≠e:=λz=>by
      rw[z,l]at G;rcases G with G|G<;>cases G
     have hRm:∀c,bJ e H c->ft c p rows:=λc g=>⟨bs,G.imp (λh=>g _ _ h M) (λh=>g _ _ h M),j7,λi b r e1 e2=>g _ _ (Y i b r e1 e2) (nbe b (Zo e1))⟩;have N6:∀Q':VK,Q' (.ref (bs[x-2]'(by lia))) H->x6 K (.ref p) (.int ((x:Int)-2)) H Q':=λQ' hQ=>by
      rcases G with h|h
      ·exact .inr ⟨p,_,((x-2:Nat):Int),.ref (bs[x-2]'(by lia)),rfl,Yo V.int ex,aQ.of h,kr (by rw[Zf,Z];rfl),hQ⟩
      ·exact .inl ⟨p,_,((x-2:Nat):Int),.ref (bs[x-2]'(by lia)),rfl,Yo V.int ex,bY.of h,kr (by rw[Zf,Z];rfl),hQ⟩
     refine⟨_,rfl,_,rfl,_,_,rfl,rfl,N6 _ ⟨_,rfl,⟨_,aQ.of k8⟩,
      CD (K:=K) (xs:=vN r) (λi U c=>bJ e H c/\c e=some (.dK (eK ((r.take i).foldl (cu rows d) a)))/\∃v3,U=[some (.ref p),some (.int (x:Nat)),some (.ref e),v3])
      ⟨bJ.refl e H,l,none,rfl⟩ (λi U c _ ⟨g,_⟩=>aQ.of (g.cC l (λu z=>by cases z) _ _ k8)) ?_ ?_⟩⟩
     ·rintro i y U c hy ⟨g,R,v3,rfl⟩;obtain⟨m,D,rfl⟩:=mZ hy;have hq:=Zo D;obtain⟨b1,b2⟩:=yi ok J vU hq;refine⟨_,rfl,_,rfl,_,rfl,p,e,m,rows,(r.take i).foldl (cu rows d) a,rfl,hRm c g,ok,hn,b1,b2,CQ ok J vU _ a (λz hz=>WQ hz) X,R,λH3 s3 PQ=>⟨g.trans s3,?_,_,rfl⟩⟩;have Bd:=(cx D).1;have O9:=(cx D).2;rw[<- YI Bd,WF,O9];exact PQ
     ·rintro U c ⟨g,R,v3,rfl⟩;rw[dM,Y9]at R;have pf:=CQ ok J vU r a (λz hz=>hz) X;have B:=(pU ok (d+1) a x X hx S).1;unfold cu at B;rw[Zi (by rintro(z|z);exact L z;exact N z)]at B;have eg:rows.getD (x-2) []=r:=by
       rw[Zt,J];rfl
      rw[eg]at B;have yS:x-2∉r.foldl (cu rows d) a:=λz=>by
       have:=(Yk.mp B.nd).2.2 (x-2) z (x-2) 'b';exact this rfl
      have dq:gZ c e (.int ((x:Int)-2)) (.bl true) (upd c e (.dK (eK (r.foldl (cu rows d) a++[x-2])))):=by
       rw[ex,<- xI4 yS];refine gZ.k (k:=Sum.inl ((x-2:Nat):Int)) R ?_;unfold eK;rw[Ze];exact ml (by have:=CM pf;lia)
      exact⟨_,rfl,_,rfl,_,_,rfl,rfl,e,_,rfl,dq,q _ (g.trans bJ.upd) aX⟩
theorem l9:aE ["rows","top","ended"] ["rows","top"] (cg AD):=cZ
inductive oZ(d:Nat)(vs:List V)(H:Hp)(Q:VK):Prop
 |mk(p:ae)(x:Nat)(rows:List Row)(e0:vs=[.ref p,.int (x:Nat)])(e1:ft H p rows)(e2:cz rows)(e3:rows.length<=1190900)(e4:x<rows.length+2)(e5:dp rows x<=d)(e6:∀H' D,aC H H'->H' D=some (.lst (vN (cu rows d [] x)))->Q (.ref D) H')
def CL(d:Nat):Sp:=λa H Q _=>oZ d a H Q
theorem UN{f fE:ae}{i fdE:ai}(F:aP K "places_as_ended" "places_as_ended" AD f i)(B:d_ mg)(T:lh mg)(j:mg "end_rows"=some (.ref fE))(k:aP K "end_rows" "end_rows" qv fE fdE)(g:Binds K fdE ["rows","number","ended"] [])(d:Nat):aB P w K mg base aJ (d+2) f i ["rows","top"] (CL d):=by
 have J:aB P w K mg base aJ (d+1) fE fdE ["rows","number","ended"] (SY d):=xI6 k T j g d;refine F.ok l9 (λC H Q E h=>?_) (λM A c s H C Q E r h=>?_)
 ·obtain⟨p,x,rows,rfl,_⟩:=h
  rfl
 ·obtain⟨p,x,rows,rfl,v,ok,u,y,m,q⟩:=h;refine⟨_,dG (eI 2 l9.nd MJ)
   (dG (ip (bZ J r j k.kp g (aD (pv 0) (aD (pv 1) (aD (pv 2) aH)))))
   (cm (cj (hZ (q11 rfl) 'd' B.list Yu (aD (pv 2) aH))))),?_⟩
  refine λe a=>⟨_,rfl,_,rfl,_,rfl,p,e,x,rows,[],rfl,v.same (bF a),ok,u,y,m,vg rows,aX,λN L G=>?_⟩;refine⟨_,rfl,e,_,rfl,G,λl I=>q _ l ?_ ?_⟩
  ·intro b o z;have D:b≠e:=ck z a;exact dZ (L b o (dZ z a) D) I
  ·rw[aX];unfold eK vN;rw[Xm]
   rfl
end
def cD(H:Hp)(t:ae)(n top:Nat)(rows:List Row):Prop:=∃p:ae,H t=some (.tup [.int (n:Nat),.int (top:Nat),.ref p])/\bq H p rows
theorem cD.mono{H a:Hp}{t:ae}{n top:Nat}{rows:List Row}(h:cD H t n top rows)(s:dW H a):cD a t n top rows:=by
 obtain⟨p,h1,h2⟩:=h;exact⟨p,s _ _ h1,h2.mono s⟩
theorem xz5{ys:List V}(h:∀(i:Nat) y,ys[i]?=some y->y=.bl true):ys=(List.replicate ys.length true).map V.bl:=by
 refine pz 'b' λi x a=>?_;have b:=(cx a).1;rw[h i x a];simp[b]
theorem SK(k:Nat):(List.replicate k true).all id=true:=by
 rw[Y8];intro x a;exact(List.mem_replicate.mp a).2
section
variable{mg:aq->Option aa}{base:ao}
theorem n_:aE ["thing","before"] ["thing","before"] (cg l_):=cZ
inductive xJ(vs:List V)(H:Hp)(Q:VK):Prop
 |mk(b:ae)(i:Nat)(r:Row)(e0:vs=[.ref b,.int (i:Nat)])(e1:H b=some (.tup (vN r)))(e2:yn i r)(e3:∀H',aC H H'->Q (.bl true) H')
def SX:Sp:=λa H Q _=>xJ a H Q
theorem xI8{f d:ae}{p a:ai}(F:aP K "is_row" "is_row" l_ f p)(B:d_ mg)(y:mg "is_number"=some (.ref d))(U:aP K "is_number" "is_number" tL d a)(S:Binds K a ["thing","many"] [])(O:aB P w K mg base aJ 2 d a ["thing","many"] Hu):aB P w K mg base aJ 3 f p ["thing","before"] SX:=by
 refine F.ok n_ (λR H Q E h=>?_) (λZ A g s H R Q E J h=>?_)
 ·obtain⟨b,i,r,rfl,_⟩:=h
  rfl
 ·obtain⟨b,i,r,rfl,hb,c,q⟩:=h;refine⟨_,dG (c9 (jr (i_ (il (cQ nI 'd' B.m9 ZA (aD (pv 0) (aD (pT (v:=.ty "tuple") 'd' B.tuple ZE rfl) aH)))))
    (m7 (dI qH (cQ iq 'd' B.len ZF (aD (pv 0) aH)) aR (cP _)))).pt (cm (cj js)) c_)
   (cm (cj (cQ (HQ rfl) 'd' B.all XR (aD (oB ["thing","before"] (cg l_) rfl rfl rfl n_.nd (vt K rfl (pv 0)) (λcl C V aG W=>bZ O J y U.kp S (aD (pv 0) (aD (pv 2) aH)))) aH)))),?_⟩
  refine⟨_,rfl,_,_,_,_,true,rfl,rfl,.inl (.tup hb),rfl,_,rfl,b_ ⟨_,rfl,b,_,rfl,.inr (aQ.of hb),rfl,_,rfl,Kh (by rw[dM,c.1];rfl) ?_⟩⟩;refine⟨_,rfl,b,rfl,⟨_,aQ.of hb⟩,λD L=>oG L (λ_ z _=>z=.bl true) (pA (K:=K) hb) (by rw[dM,c.1];decide) (λ_ _ _ _ _ _ h=>h) ?_ ?_⟩
  ·intro j x k hj N l Y T;obtain⟨m,u,rfl⟩:=mZ N;exact⟨_,rfl,_,rfl,m,i,rfl,c.2 m (Zo u),T _ _ (aC.refl _) rfl⟩
  ·intro G k l M X I;have e:=xz5 I;refine⟨D,List.replicate G.length true,rfl,by rw[<- e];exact M,?_⟩;rw[SK];exact q k l
theorem lC:aE ["thing"] ["thing"] (cg tS):=cZ
inductive sZ(vs:List V)(H:Hp)(Q:VK):Prop
 |mk(p:ae)(rows:List Row)(e0:vs=[.ref p])(e1:bq H p rows)(e2:cz rows)(e3:rows.length<=900)(e4:∀H',aC H H'->Q (.bl true) H')
def KP:Sp:=λa H Q _=>sZ a H Q
theorem xz6{f c:ae}{u j:ai}(F:aP K "are_rows" "are_rows" tS f u)(B:d_ mg)(U:mg "is_row"=some (.ref c))(FR:aP K "is_row" "is_row" l_ c j)(M:Binds K j ["thing","before"] [])(GR:aB P w K mg base aJ 3 c j ["thing","before"] SX):aB P w K mg base aJ 4 f u ["thing"] KP:=by
 refine F.ok lC (λX H Q E h=>?_) (λbp A g s H X Q E O h=>?_)
 ·obtain⟨p,rows,rfl,_⟩:=h
  rfl
 ·obtain⟨p,rows,rfl,T,ok,hn,q⟩:=h;obtain⟨bs,d,L,J⟩:=id T;refine⟨_,cm (cj (su (cQ nI 'd' B.m9 ZA (aD (pv 0) (aD (pT (v:=.ty "tuple") 'd' B.tuple ZE rfl) aH)))
   (sy (cQ (HQ rfl) 'd' B.all XR (aD (MK ["thing"] (cg tS) rfl rfl rfl lC.nd (Ui 'd' B.enum (aD (pv 0) aH)) (λcl C fp aG aK=>bZ GR O U FR.kp M (aD (pv 1) (aD (pv 0) aH)))) aH))))),?_⟩
  refine⟨_,rfl,_,_,_,_,true,rfl,rfl,.inl (.tup d),rfl,_,rfl,cB ?_⟩;have r:(bs.map V.ref).length=rows.length:=by rw[Ze];exact L
  refine⟨_,rfl,p,rfl,⟨_,aQ.of d⟩,λD S=>LK S (λ_=>true) (λ_=>.bl true) (UP (K:=K) d) (by rw[r];exact oH 'a') ?_ ?_⟩
  ·rintro i x k a ⟨t,y,rfl,G,ht⟩ l os N I Q2 q1 R;obtain⟨o1,o2,rfl⟩:=L2.I_ N
   ·
    have Z:i<rows.length:=by rw[<- r];exact a
    rw[Zf]at G;obtain⟨b,hb,rfl⟩:=Zp.mp G;have m:rows[i]?=some rows[i]:=by simp[Z]
    refine⟨t,_,rfl,aQ.of ht,rfl,_,_,rfl,_,_,rfl,rfl,?_⟩;refine cB (B:=I k) ?_;exact⟨_,rfl,_,rfl,b,i,rows[i],rfl,l _ _ (J i b _ hb m),ok i _ m,λW s3=>R rfl W s3⟩
  ·intro k l Y;refine⟨D,List.replicate (bs.map V.ref).length true,rfl,?_,?_⟩
   ·rw[Y];congr 2;rw[List.map_replicate,List.filter_eq_self.mpr (λ_ _=>rfl)];refine pz 'b' λi x e=>?_;have a:=(cx e).1;rw[Zf]at e;obtain⟨_,_,rfl⟩:=Zp.mp e;simp at a;rw[Ze,Xu,Zr a]
   ·rw[SK];exact q k l
theorem cf:aE ["thing","n","top","rows"] ["thing"] (cg vf):=cZ
inductive ni(vs:List V)(H:Hp)(Q:VK):Prop
 |mk(t:ae)(n tp:Nat)(rows:List Row)(e0:vs=[.ref t])(e1:cD H t n tp rows)(e2:n<=12)(e3:cz rows)(e4:rows.length<=900)(e5:tp<rows.length+2)(e6:dp rows tp<=n)(e7:∀H',aC H H'->Q (.bl true) H')
def UM:Sp:=λa H Q _=>ni a H Q
theorem q14{f c g k j:ae}{G r m b u:ai}(F:aP K "is_telling" "is_telling" vf f G)(B:d_ mg)
  (hS:mg "is_size"=some (.ref c)) (O:aP K "is_size" "is_size" yk c r) (N:Binds K r ["thing"] []) (GS:aB P w K mg base aJ 2 c r ["thing"] KQ)
  (hR:mg "are_rows"=some (.ref g)) (FR:aP K "are_rows" "are_rows" tS g m) (T:Binds K m ["thing"] []) (GR:aB P w K mg base aJ 4 g m ["thing"] KP)
  (M:mg "is_number"=some (.ref k)) (FN:aP K "is_number" "is_number" tL k b) (bN:Binds K b ["thing","many"] []) (GN:aB P w K mg base aJ 2 k b ["thing","many"] Hu)
  (U:mg "depths_of"=some (.ref j)) (C:aP K "depths_of" "depths_of" ym j u) (bD:Binds K u ["rows"] []):aB P w K mg base aJ 5 f G ["thing"] UM:=by
 have R:aB P w K mg base aJ 1 j u ["rows"] Im:=Mc C B;refine F.ok cf (λvs H Q E h=>?_) (λbp A l s H vs Q E e h=>?_)
 ·obtain⟨t,n,a,rows,rfl,_⟩:=h
  rfl
 ·obtain⟨t,n,a,rows,rfl,⟨p,d,i⟩,X,ok,L,J,hd,q⟩:=h;have Y:aS 1 _:=e.mono 'c';have y:aS 2 _:=e.mono 'c';refine⟨_,dG (c9 (jr (i_ (il (cQ nI 'd' B.m9 ZA (aD (pv 0) (aD (pT (v:=.ty "tuple") 'd' B.tuple ZE rfl) aH)))))
    (m7 (dI qH (cQ iq 'd' B.len ZF (aD (pv 0) aH)) aR (cP _)))).pt (cm (cj js)) c_)
   (dG (m6 (pv 0) (pR rfl (e_ (dj 1 cf.nd) (e_ (dj 2 cf.nd) (e_ (dj 3 cf.nd) oz)))))
   (dG (c9 (jr (i_ (il (bZ GS y hS O.kp N (aD (pv 1) aH))))
    (jr (i_ (il (bZ GR e hR FR.kp T (aD (pv 3) aH))))
    (m7 (i_ (il (bZ GN y M FN.kp bN (aD (pv 2) (aD (cQ iq 'd' B.len ZF (aD (pv 3) aH)) aH)))))))).pt (cm (cj js)) c_)
   (cm (cj (oy tV (cO jv (bZ R Y U C.kp bD (aD (pv 3) aH)) (pv 2)) (pv 1) (cP _)))))),?_⟩
  refine⟨_,rfl,_,_,_,_,true,rfl,rfl,.inl (.tup d),rfl,_,rfl,b_ ⟨_,rfl,t,_,rfl,.inr (aQ.of d),rfl,_,rfl,b_ ?_⟩⟩;refine⟨_,rfl,t,_,rfl,aQ.of d,rfl,_,_,rfl,_,_,rfl,_,_,rfl,rfl,?_⟩;refine⟨_,rfl,n,rfl,X,_,rfl,b_ ⟨_,rfl,p,rows,rfl,i,ok,L,λH2 x=>⟨_,rfl,b_ ?_⟩⟩⟩;obtain⟨bs,W,S,jA⟩:=id i;refine⟨_,rfl,_,rfl,p,_,rfl,.inr (aQ.of (x _ _ W)),a,rows.length,by rw[Ze,S];rfl,J,_,rfl,b_ ?_⟩;refine⟨_,rfl,p,rows,rfl,i.same x,ok,L,λI D s3 Z=>?_⟩;refine⟨_,rfl,D,_,(a:Int),.int (dp rows a:Nat),rfl,rfl,bY.of Z,sj (AW J),_,rfl,_,_,rfl,rfl,?_⟩;show Q (V.bl (decide ((dp rows a:Int)<=(n:Int)))) I;rw[Zq 'a'];exact q I (x.trans s3)
end
def gO(H:Hp)(t:ae)(n top:Nat)(rows:List Row):Prop:=cD H t n top rows/\Canon n top rows/\rows.length<=900
def Il(H:Hp)(t:ae)(n top:Nat)(rows:List Row):Prop:=cD H t n top rows/\Canon n top rows/\rows.length<=1190900
def aU(r:List Nat):List Key:=r.map λn:Nat=>Sum.inl (n:Int)
theorem sg(r:List Nat):(aU r).map kV=vN r:=by unfold aU vN;rw[Xm];rfl
theorem vd{l m:List Nat}(h:aU l=aU m):l=m:=by
 have:vN l=vN m:=by rw[<- sg,<- sg,h]
 rw[si,si]at this;exact IF ((XA (λ_ _ z=>V.int.inj z)).mp this)
theorem LJ{rows:List Row}(h:rows.Nodup):(rows.map aU).Nodup:=by
 rw[dr]at h ⊢;intro i j b a z;rw[Ze]at a;refine h i j b a ?_;rw[Zf,Zf,Zd 'a',Zd a]at z;rw[Zd 'a',Zd a];congr 1;exact vd (Zu z)
theorem q15(b:List Int):PyData.depthAll (b.map PyData.int)<=1:=by
 induction b with
 |nil=>simp[PyData.depthAll]
 |cons a b c=>
  rw[ZL];simp only[PyData.depthAll,PyData.depth];lia
theorem T8(a:List Int):(dL a).depth<=2:=by
 have:=q15 a;unfold dL;simp only[PyData.depth];lia
section
variable{mg:aq->Option aa}{base:ao}
theorem di:aE ["thing","top","rows"] ["thing"] (cg tG):=cZ
inductive qj(vs:List V)(H:Hp)(Q:VK):Prop
 |mk(t:ae)(n tp:Nat)(rows:List Row)(e0:vs=[.ref t])(e1:gO H t n tp rows)(e2:∀H',aC H H'->Q (.bl true) H')
def SJ:Sp:=λa H Q _=>qj a H Q
theorem xl9{f M L S:ae}{fd O J W:ai}(F:aP K "is_shape" "is_shape" tG f fd)(B:d_ mg)(T:lh mg)
  (hT:mg "is_telling"=some (.ref M)) (FT:aP K "is_telling" "is_telling" vf M O) (bT:Binds K O ["thing"] []) (GT:aB P w K mg base aJ 5 M O ["thing"] UM)
  (hP:mg "is_plain"=some (.ref L)) (FP:aP K "is_plain" "is_plain" uW L J) (bP:Binds K J ["row"] [])
  (hA:mg "places_as_ended"=some (.ref S)) (FA:aP K "places_as_ended" "places_as_ended" AD S W) (bA:Binds K W ["rows","top"] []) (GA:∀d,aB P w K mg base aJ (d+2) S W ["rows","top"] (CL d)):aB P w K mg base aJ 15 f fd ["thing"] SJ:=by
 have GP:aB P w K mg base aJ 2 L J ["row"] IG:=MG FP T;refine F.ok di (λvs H Q E h=>?_) (λbp A N s H vs Q E k h=>?_)
 ·obtain⟨t,n,y,rows,rfl,_⟩:=h
  rfl
 ·obtain⟨t,n,y,rows,rfl,⟨mD,a,hl⟩,q⟩:=h;obtain⟨p,ht,jG⟩:=id mD;obtain⟨bs,G,j7,jA⟩:=id jG;have kB:aS 2 _:=k.mono 'c';have yI:aS 5 _:=k.mono 'c';have OI:aS (n+2) _:=k.mono (by have:=a.size;lia);refine⟨_,dG (c9 (i_ (il (bZ GT yI hT FT.kp bT (aD (pv 0) aH)))) (cm (cj js)) c_)
   (dG (m6 (tO C_ (pv 0) (nF aR) pS) (pR rfl (e_ (dj 1 di.nd) (e_ (dj 2 di.nd) oz))))
   (dG (c9 (PW.pt (jr (il (cQ (UR rfl) 'd' B.any PyProof.Rows.boot_any (aD (oB ["thing","top","rows"] (cg tG) rfl rfl rfl di.nd (vt K rfl (pv 2)) (λcl C fp aG aK=>bZ GP kB hP FP.kp bP (aD (pv 0) aH))) aH)))
    (m7 (dI mi (cQ VJ 'd' B.len ZF (aD (hZ (q83 rfl k) 'd' B.set PyProof.Rows.boot_set (aD (pv 2) aH)) aH)) (cQ iq 'd' B.len ZF (aD (pv 2) aH)) (cP _))))) (cm (cj js)) c_)
   (cm (cj (oy (Iu k) (bZ (GA n) OI hA FA.kp bA (aD (pv 2) (aD (pv 1) aH)))
    (hZ (VD rfl) 'd' B.list Yu (aD (hZ Tw 'd' B.range PyProof.Rows.boot_range (aD (cQ iq 'd' B.len ZF (aD (pv 2) aH)) aH)) aH)) (cP _)))))),?_⟩
  refine⟨_,rfl,t,n,y,rows,rfl,mD,a.size,a.gA,hl,a.gp,a.deep,λH1 s1=>⟨_,rfl,b_ ?_⟩⟩;have kU:=s1 _ _ ht;refine⟨_,rfl,_,rfl,t,_,rfl,aQ.of kU,(λz=>absurd (show HT.cI 3 0 (some 1)=0 from z.1) 'c'),λu hu=>?_⟩;refine⟨u,_,rfl,aQ.of aX,rfl,_,_,rfl,_,_,rfl,rfl,?_⟩;have sA:aC H (upd H1 u (.tup [.int (y:Nat),.ref p])):=s1.trans (bF hu);refine(λ(go:∀H2,aC H H2->_)=>go _ sA) ?_;intro H2 Z;have jM:=Z _ _ G;have I:(bs.map V.ref).length=rows.length:=by rw[Ze];exact j7
  refine⟨_,rfl,p,rfl,⟨_,aQ.of jM⟩,λD hD=>oG hD (λ_ z _=>z=.bl false) (pA (K:=K) jM) (by rw[I];exact oH 'a') (λ_ _ _ _ _ _ h=>h) ?_ ?_⟩
  ·intro j x X hj c R Q' hq;have yL:j<rows.length:=by rw[<- I];exact hj
   rw[Zf]at c;obtain⟨b,hb,rfl⟩:=Zp.mp c;have jC:rows[j]?=some rows[j]:=by simp[yL]
   refine⟨_,rfl,b,rows[j],rfl,R _ _ (Z _ _ (jA j b _ hb jC)),(a.gA j _ jC).1,λH4 v=>hq _ _ v ?_⟩;rw[Zy (a.dF _ (YY yL))]
  ·intro m X R jZ jU jS;have e:m=(List.replicate m.length false).map V.bl:=by
    refine pz 'b' λi x c=>?_;have hi:=(cx c).1;rw[jS i x c];simp[hi]
   have Y:aC H X:=Z.trans R;refine⟨D,List.replicate m.length false,rfl,by rw[<- e];exact jZ,_,rfl,?_⟩;have na:(List.replicate m.length false).any id=false:=by
    rw[Wu];intro x c;rw[(List.mem_replicate.mp c).2];decide
   rw[na];refine b_ ?_;have jQ:=Y _ _ G;refine⟨_,rfl,p,bs,rows.map aU,rfl,jQ,by rw[Ze];exact j7,λi b ks e1 e2=>?_,LJ a.unlike,by rw[Ze];lia,λr t_=>?_⟩
   ·rw[Zf]at e2;obtain⟨r0,EB,rfl⟩:=Zp.mp e2;rw[sg];exact Y _ _ (jA i b r0 e1 EB)
   ·have v:aC H (upd X r (.ext (nU r (rows.map aU).length))):=Y.trans (bF t_);have vD:=v _ _ G;refine⟨r,_,rfl,aX,by rw[Ze];lia,_,rfl,p,_,rfl,.inr (aQ.of vD),_,_,rfl,rfl,_,rfl,?_⟩;have nl:decide (((rows.map aU).length:Int)<((bs.map V.ref).length:Int))=false:=Zy (by rw[I,Ze];lia);rw[nl];refine b_ ?_;refine(λ(go:∀H5,aC H H5->_)=>go _ v) ?_;intro H5 U;refine⟨_,rfl,_,rfl,p,y,rows,rfl,(jG.same U).zs,a.gA,(ZN hl 'c'),a.gp,a.deep,λH6 D6 s6 PX=>?_⟩;have vL:=s6 _ _ (U _ _ G);refine⟨_,rfl,p,_,rfl,.inr (aQ.of vL),_,rfl,λg hg=>⟨g,rows.length,rfl,by rw[aX,I],by lia,λl xb=>?_⟩⟩;have yV:=dZ (u:=.lst ((List.range rows.length).map λ(i:Nat)=>V.int (i:Int))) (dZ (u:=.tE 0 ((bs.map V.ref).length:Int)) PX hg) xb;rw[a.ends,si]at yV;have e9:((List.range rows.length).map λ(i:Nat)=>V.int (i:Int))=((List.range rows.length).map λn:Nat=>(n:Int)).map V.int:=si _;refine⟨dL ((List.range rows.length).map λn:Nat=>(n:Int)),dL ((List.range rows.length).map λn:Nat=>(n:Int)),.lst yV (aT.ints _),.lst aX (e9▸aT.ints _),Ir _,Ir _,?_,?_⟩
    ·exact ZN (T8 _) 'c'
    ·rw[R0,Zq rfl];exact q _ (U.trans (s6.trans ((bF hg).trans (bF xb))))
end
end Pr
namespace cY
open PySem
def kf(xs:Array Nat):Prop:=∀i j (a:i<xs.size) (b:j<xs.size),i<j->xs[i]<xs[j]
theorem MF{xs:Array Nat}(d:kf xs)(j:Nat):∀(f b a:Nat),a-b<=f->b<=a->a<=xs.size->(∀k (h:k<xs.size),k<b->xs[k]<j)->(∀k (h:k<xs.size),a<=k->j<=xs[k]) ->
  SetTable.below.go xs j f b a<=xs.size/\(∀k (h:k<xs.size),k<SetTable.below.go xs j f b a->xs[k]<j)/\(∀k (h:k<xs.size),SetTable.below.go xs j f b a<=k->j<=xs[k])
 |0,b,a,s,r,g,h1,h2=>by
  have e:b=a:=by lia
  subst e;exact⟨g,h1,h2⟩
 |f+1,b,a,s,r,g,h1,h2=>by
  unfold SetTable.below.go;by_cases m:b<a
  ·rw[Zr m];have i:(b+a)/2<xs.size:=by lia
   have p:xs.getD ((b+a)/2) j=xs[(b+a)/2]:=by simp[Array.getD,i]
   simp only;rw[p];by_cases c:xs[(b+a)/2]<j
   ·rw[Zr c];refine MF d j f _ a 'a' 'a' g (λk h q=>?_) h2;by_cases l:k=(b+a)/2
    ·subst l;exact c
    ·exact WA (d k _ h i 'a') c
   ·rw[Zi c];refine MF d j f b _ 'a' 'a' 'a' h1 (λk h q=>?_);by_cases l:k=(b+a)/2
    ·subst l;lia
    ·have:=d _ k i h 'a';lia
  ·rw[Zi m];have e:b=a:=by lia
   subst e;exact⟨g,h1,h2⟩
theorem Ht{xs:Array Nat}(b:kf xs)(j:Nat):SetTable.below xs j<=xs.size/\(∀k (h:k<xs.size),k<SetTable.below xs j->xs[k]<j)/\(∀k (h:k<xs.size),SetTable.below xs j<=k->j<=xs[k]):=
 MF b j xs.size 0 xs.size 'a' (ZU _) (Zg _) (λk h a=>absurd a (Yi _)) (λk h a=>absurd h 'a')
theorem xm0{xs:Array Nat}(d:kf xs){i j:Nat}(h:xs[i]?=some j):SetTable.below xs j=i:=by
 obtain⟨c,e⟩:=ZC.mp h;obtain⟨f,h1,h2⟩:=Ht d j;rcases Vi (SetTable.below xs j) i with z|z|z
 ·have a:=h2 (SetTable.below xs j) 'a' (Zg _);have b:=d _ i 'a' c z;lia
 ·exact z
 ·have:=h1 i c z;lia
theorem Dm{t:av}(a:kf t.place){i j:Nat}(h:t.place[i]?=some j):t.slot j=.live i:=by
 unfold SetTable.slot;simp only;rw[xm0 a h,Zr (by rw[h];simp)]
theorem qG{b:Type}(xs:Array b)(p:Nat)(d:p<=xs.size)(x:b)(k:Nat):(SetTable.insertAt xs p x)[k]?=if k<p then xs[k]? else if k=p then some x else xs[k-1]?:=by
 unfold SetTable.insertAt;have a:(xs.extract 0 p).size=p:=by simp;lia
 have c:((xs.extract 0 p).push x).size=p+1:=by rw[Array.size_push,a]
 rw[Array.getElem?_append,c];by_cases h1:k<p
 ·rw[Zr 'a',Zr h1,W0,a,Zi 'a',Array.getElem?_extract];simp only[Xn];rw[Zr 'a']
 ·rw[Zi h1];by_cases h2:k=p
  ·rw[Zr h2,Zr 'a',W0,a,Zr h2]
  ·rw[Zi h2,Zi 'a',Array.getElem?_extract];have:p+(k-(p+1))=k-1:=by lia
   rw[this];by_cases e:k-1<xs.size
   ·rw[Zr 'a']
   ·rw[Zi 'a',XB 'a']
theorem SI{xs:Array Nat}(h:∀i j x y:Nat,i<j->xs[i]?=some x->xs[j]?=some y->x<y):kf xs:=λi j a c b=>h i j _ _ b (ZR a) (ZR c)
theorem kf.at{xs:Array Nat}(h:kf xs){i j x y:Nat}(b:i<j)(c:xs[i]?=some x)(a:xs[j]?=some y):x<y:=by
 obtain⟨h1,rfl⟩:=ZC.mp c;obtain⟨h2,rfl⟩:=ZC.mp a;exact h i j h1 h2 b
theorem xm1{xs:Array Nat}(f:kf xs){j:Nat}(B:∀i:Nat,xs[i]?≠some j):kf (SetTable.insertAt xs (SetTable.below xs j) j):=by
 obtain⟨u,h1,h2⟩:=Ht f j;have s:∀k x:Nat,k<SetTable.below xs j->xs[k]?=some x->x<j:=λk x g e=>by
  obtain⟨h,rfl⟩:=ZC.mp e;exact h1 k h g
 have A:∀k x:Nat,SetTable.below xs j<=k->xs[k]?=some x->j<x:=λk x g e=>by
  obtain⟨h,w⟩:=ZC.mp e;have:=h2 k h g;rw[w]at this;have C:x≠j:=λz=>B k (by rw[e,z]);lia
 generalize SetTable.below xs j=p at *;refine SI λa b x y v d c=>?_;rw[qG _ _ u]at d c;by_cases l:a<p
 ·rw[Zr l]at d;by_cases m:b<p
  ·rw[Zr m]at c;exact f.at v d c
  ·rw[Zi m]at c;by_cases r:b=p
   ·rw[Zr r]at c;cases c;exact s a x l d
   ·rw[Zi r]at c;exact f.at 'a' d c
 ·rw[Zi l]at d;rw[Zi 'a',Zi 'a']at c;by_cases q:a=p
  ·rw[Zr q]at d;cases d;exact A _ y 'a' c
  ·rw[Zi q]at d;exact f.at 'a' d c
theorem CK{t t':av}(h:t.mask=t'.mask):∀(m:Nat)(p:SetTable.Probe),cK t m p=cK t' m p
 |0,p=>rfl
 |m+1,p=>by
  have e:t.advance p=t'.advance p:=by unfold SetTable.advance;rw[h]
  show cK t m (t.advance p)=cK t' m (t'.advance p);rw[e];exact CK h m _
theorem HY{t t':av}(h:t.mask=t'.mask)(x:Int):t.probeStart x=t'.probeStart x:=by unfold SetTable.probeStart;rw[h]
def Way(t:av)(x:Int)(j:Nat):Prop:=∃m,m<10*SetTable.turns t.mask/\(cK t m (t.probeStart x)).j=j/\∀a,a<m->∃i:Nat,t.place[i]?=some (cK t a (t.probeStart x)).j
theorem Way.more{t t':av}{x:Int}{j:Nat}(w:Way t x j)(a:t.mask=t'.mask)(c:∀k:Nat,(∃i:Nat,t.place[i]?=some k)->∃i:Nat,t'.place[i]?=some k):Way t' x j:=by
 obtain⟨m,h1,h2,e⟩:=w;refine⟨m,by rw[<- a];exact h1,?_,λb d=>?_⟩
 ·rw[<- HY a,<- CK a];exact h2
 ·rw[<- HY a,<- CK a];exact c _ (e b d)
structure Good(t:av)(hs:Array Int):Prop where
 gr:cH t hs.size
 ri:kf t.place
 wy:∀(i j:Nat)(x:Int),t.place[i]?=some j->hs[i]?=some x->Way t x j
theorem Good.put{t:av}{hs:Array Int}(g:Good t hs)(r:t.tooFull=false){j:Nat}{x:Int}(p:∀i:Nat,t.place[i]?≠some j)(w:Way t x j):Good (t.put j).1 (SetTable.insertAt hs (t.put j).2 x):=by
 have e:(t.put j).1={t with place:=SetTable.insertAt t.place (SetTable.below t.place j) j}:=by
  unfold SetTable.put;simp only;rw[g.gr.du,MP];simp[g.gr.du]
 have m:(t.put j).2=SetTable.below t.place j:=rfl;have d:=(Ht g.ri j).1;have q:t.place.size=hs.size:=g.gr.pl;have f:∀k:Nat,(∃i:Nat,t.place[i]?=some k)->∃i:Nat,(t.put j).1.place[i]?=some k:=λk ⟨i,c⟩=>by
  rw[e];by_cases h:i<SetTable.below t.place j
  ·exact⟨i,by rw[qG _ _ d,Zr h];exact c⟩
  ·exact⟨i+1,by rw[qG _ _ d,Zi 'a',Zi 'a'];exact c⟩
 have l:t.mask=(t.put j).1.mask:=by rw[e]
 refine⟨by rw[Ig];exact g.gr.put r j,by rw[e];exact xm1 g.ri p,λi k y c b=>?_⟩;rw[m,qG _ _ 'a']at b;rw[e]at c;have a:(SetTable.insertAt t.place (SetTable.below t.place j) j)[i]?=some k:=c;rw[qG _ _ d]at a;by_cases h1:i<SetTable.below t.place j
 ·rw[Zr h1]at a b;exact(g.wy i k y a b).more l f
 ·rw[Zi h1]at a b;by_cases h2:i=SetTable.below t.place j
  ·rw[Zr h2]at a b;cases a;cases b;exact w.more l f
  ·rw[Zi h2]at a b;exact(g.wy (i-1) k y a b).more l f
def tm(mask:Nat):av:={mask:=mask,place:=#[],dummies:=#[],finger:=0,led:=false,moves:=0,plain:=true}
theorem KO{mask i k:Nat}(b:i<=mask)(a:k<=SetTable.runEnd mask i-i):i+k<=mask:=by
 unfold SetTable.runEnd at a;split at a<;>lia
theorem ME{mask:Nat}{owner:Array (Option Nat)}:∀(f i p:Nat)(b:SetTable.Probe)(j:Nat),i<=mask->Head (tm mask) i p none b->SetTable.layClean.free mask owner f i p=some j ->
  ∃m,m<10*f/\(cK (tm mask) m b).j=j/\j<=mask/\(owner.getD j (some 0)).isNone=true/\∀a,a<m->(cK (tm mask) a b).j<=mask/\(owner.getD (cK (tm mask) a b).j (some 0)).isNone=false
 |0,i,p,b,j,_,_,h=>by cases h
 |f+1,i,p,b,j,s,g,h=>by
  unfold SetTable.layClean.free at h;have A:=UY mask i;have r:∀k,k<=SetTable.runEnd mask i-i->(cK (tm mask) k b).j=i+k:=λk c=>by
   rw[IS (tm mask) k b (by rw[g.e];exact c),g.e]
  have F:i<=SetTable.runEnd mask i:=by unfold SetTable.runEnd;split<;>lia
  cases e:(List.range (SetTable.runEnd mask i+1-i)).find? λk=>(owner.getD (i+k) (some 0)).isNone with
  |some k=>
   rw[e]at h;have u:i+k=j:=Zu h;obtain⟨h1,h2,l⟩:=List.find?_range_eq_some.mp e;have c:k<=SetTable.runEnd mask i-i:=by have:=ZX.mp h2;lia
   refine⟨k,by lia,by rw[r k c];exact u,by rw[<- u];exact KO s c,by rw[<- u];exact h1,λa v=>?_⟩;rw[r a 'a'];refine⟨KO s 'a',?_⟩;have:=l a v;simpa using this
  |none=>
   rw[e]at h;simp only at h;have D:∀k,k<=SetTable.runEnd mask i-i->(owner.getD (i+k) (some 0)).isNone=false:=λk c=>by
    have y:∀x∈List.range (SetTable.runEnd mask i+1-i),¬(owner.getD (i+x) (some 0)).isNone=true:=by simpa using e
    have:=y k (ZX.mpr 'a');exact Vg.mpr this
   have C:Head (tm mask) (SetTable.leap mask i p).1 (SetTable.leap mask i p).2 none (cK (tm mask) ((SetTable.runEnd mask i-i)+1) b):=by
    refine⟨?_⟩;rw[tM,IS (tm mask) _ b (by rw[g.e];exact Zg _)];show(tm mask).advance _=_;rw[g.e];unfold SetTable.advance;rw[Zi (by show ¬(SetTable.runEnd mask i-i)-(SetTable.runEnd mask i-i)>0;lia)]
    rfl
   have E:(SetTable.leap mask i p).1<=mask:=by
    have:=W3 (i*5+1+p/32) (WB mask);exact Xk this
   obtain⟨m,h1,h2,l,w,B⟩:=ME f _ _ _ j E C h;refine⟨(SetTable.runEnd mask i-i)+1+m,by lia,by rw[tM];exact h2,l,w,λa v=>?_⟩;by_cases q:a<=SetTable.runEnd mask i-i
   ·rw[r a q];exact⟨KO s q,D a q⟩
   ·obtain⟨d,rfl⟩:∃d,a=(SetTable.runEnd mask i-i)+1+d:=⟨a-((SetTable.runEnd mask i-i)+1),by lia⟩;rw[tM];exact B d 'a'
def Ae(mask:Nat)(owner:Array (Option Nat))(x:Int)(j:Nat):Prop:=∃m,m<10*SetTable.turns mask/\(cK (tm mask) m ((tm mask).probeStart x)).j=j/\∀a,a<m->∃v:Nat,owner[(cK (tm mask) a ((tm mask).probeStart x)).j]?=some (some v)
structure lg(mask:Nat)(owner:Array (Option Nat))(hs:List Int)(K:Nat):Prop where
 sz:owner.size=mask+1
 wy:∀j k:Nat,owner[j]?=some (some k)->k<K/\∀x,hs[k]?=some x->Ae mask owner x j
theorem q16{mask K:Nat}{owner:Array (Option Nat)}{hs:List Int}(g:lg mask owner hs K){x:Int}(B:hs[K]?=some x){j:Nat}
  (h:SetTable.layClean.free mask owner (SetTable.turns mask) (SetTable.bits x%(mask+1)) (SetTable.bits x)=some j):lg mask (owner.setIfInBounds j (some K)) hs (K+1):=by
 obtain⟨m,h1,h2,F,E,w⟩:=ME (mask:=mask) (owner:=owner) (SetTable.turns mask) _ _ ((tm mask).probeStart x) j (Xk (W3 _ (WB _))) ⟨rfl⟩ h;have r:j<owner.size:=by rw[g.sz];lia
 have A:∀k:Nat,k<=mask->(owner.getD k (some 0)).isNone=false->∃v:Nat,owner[k]?=some (some v):=λk f p=>by
  have s:k<owner.size:=by rw[g.sz];lia
  have e:owner.getD k (some 0)=owner[k]:=by simp[Array.getD,s]
  rw[e]at p;cases ho:owner[k]with
  |none=>rw[ho]at p;cases p
  |some v=>exact⟨v,by rw[ZR s,ho]⟩
 have keep:∀k v:Nat,owner[k]?=some (some v)->∃C:Nat,(owner.setIfInBounds j (some K))[k]?=some (some C):=λk v f=>by
  rw[Y4];by_cases e:j=k
  ·rw[Zr e,Zr r];exact⟨K,rfl⟩
  ·rw[Zi e];exact⟨v,f⟩
 have u:∀y k,Ae mask owner y k->Ae mask (owner.setIfInBounds j (some K)) y k:=λy k ⟨a,b,c,d⟩=>⟨a,b,c,λq l=>by
  obtain⟨v,D⟩:=d q l;exact keep _ v D⟩
 refine⟨by rw[Wg];exact g.sz,λk v f=>?_⟩;rw[Y4]at f;by_cases e:j=k
 ·rw[Zr e,Zr r]at f;have ev:v=K:=by
   have:=Zu (Zu f);exact this.symm
  subst ev;refine⟨Yw _,λy i=>?_⟩;rw[B]at i;cases i;rw[<- e];refine u x j ⟨m,h1,h2,λq l=>?_⟩;obtain⟨a,b⟩:=w q l;exact A _ a b
 ·rw[Zi e]at f;obtain⟨a,b⟩:=g.wy k v f;exact⟨by lia,λy i=>u y k (b y i)⟩
theorem UL{mask:Nat}(all:List Int):∀(m:List Int)(b d:Array (Option Nat))(K f:Nat),lg mask b all K->(∀i x,m[i]?=some x->all[K+i]?=some x) ->
  (m.foldl (λ(c:Option (Array (Option Nat)×Nat)) (h:Int)=>do
   let (b,k) <- c
   let j <- SetTable.layClean.free mask b (SetTable.turns mask) (SetTable.bits h%(mask+1)) (SetTable.bits h)
   pure (b.setIfInBounds j (some k),k+1)) (some (b,K)))=some (d,f)->lg mask d all f
 |[],b,d,K,f,g,_,e=>by
  have:=Zu e;cases this;exact g
 |h::m,b,d,K,f,g,r,e=>by
  rw[Z9]at e;have p:=r 0 h rfl;rw[Nat.add_zero]at p;cases hf:SetTable.layClean.free mask b (SetTable.turns mask) (SetTable.bits h%(mask+1)) (SetTable.bits h)with
  |none=>
   exfalso;have q:(m.foldl (λ(c:Option (Array (Option Nat)×Nat)) (h:Int)=>do
    let (b,k) <- c
    let j <- SetTable.layClean.free mask b (SetTable.turns mask) (SetTable.bits h%(mask+1)) (SetTable.bits h)
    pure (b.setIfInBounds j (some k),k+1)) none)=some (d,f):=by
    rw[<- e];congr 1;show none=(SetTable.layClean.free mask b (SetTable.turns mask) (SetTable.bits h%(mask+1)) (SetTable.bits h)).bind _;rw[hf]
    rfl
   have no:∀l:List Int,(l.foldl (λ(c:Option (Array (Option Nat)×Nat)) (h:Int)=>do
    let (b,k) <- c
    let j <- SetTable.layClean.free mask b (SetTable.turns mask) (SetTable.bits h%(mask+1)) (SetTable.bits h)
    pure (b.setIfInBounds j (some k),k+1)) none)=none:=λl=>by
    induction l with
    |nil=>rfl
    |cons a l u=>rw[Z9];exact u
   rw[no]at q;cases q
  |some j=>
   refine UL all m (b.setIfInBounds j (some K)) d (K+1) f (q16 g p hf) (λi x s=>?_) ?_
   ·have:=r (i+1) x (by simpa using s);rw[show K+1+i=K+(i+1) by lia];exact this
   ·rw[<- e];congr 1;show some _=(SetTable.layClean.free mask b (SetTable.turns mask) (SetTable.bits h%(mask+1)) (SetTable.bits h)).bind _;rw[hf]
    rfl
theorem xm2{mask:Nat}{hs:Array Int}{owner:Array (Option Nat)}(h:SetTable.layClean mask hs=some owner):lg mask owner hs.toList hs.size:=by
 unfold SetTable.layClean at h;rw[<- W5]at h;obtain⟨⟨o,d⟩,e,rfl⟩:=Zp.mp h;have v:lg mask (Array.replicate (mask+1) none) hs.toList 0:=⟨by simp,λj k m=>by
  rw[Array.getElem?_replicate]at m;split at m<;>cases m⟩
 have g:=UL hs.toList hs.toList _ o 0 d v (λi x r=>by rw[Xn];exact r) e;refine⟨g.sz,λj k m=>?_⟩;obtain⟨a,b⟩:=g.wy j k m;have cnt:∀(l:List Int)(o f:Array (Option Nat))(K d:Nat),(l.foldl (λ(c:Option (Array (Option Nat)×Nat)) (h:Int)=>do
   let (owner,k) <- c
   let j <- SetTable.layClean.free mask owner (SetTable.turns mask) (SetTable.bits h%(mask+1)) (SetTable.bits h)
   pure (owner.setIfInBounds j (some k),k+1)) (some (o,K)))=some (f,d)->d=K+l.length:=λl=>by
  induction l with
  |nil=>intro o f K d e;have:=Zu e;cases this;rfl
  |cons x l q=>
   intro o f K d e;rw[Z9]at e;cases hf:SetTable.layClean.free mask o (SetTable.turns mask) (SetTable.bits x%(mask+1)) (SetTable.bits x)with
   |none=>
    exfalso;have no:∀l:List Int,(l.foldl (λ(c:Option (Array (Option Nat)×Nat)) (h:Int)=>do
     let (owner,k) <- c
     let j <- SetTable.layClean.free mask owner (SetTable.turns mask) (SetTable.bits h%(mask+1)) (SetTable.bits h)
     pure (owner.setIfInBounds j (some k),k+1)) none)=none:=λl=>by
     induction l with
     |nil=>rfl
     |cons a l q=>rw[Z9];exact q
    have s:(SetTable.layClean.free mask o (SetTable.turns mask) (SetTable.bits x%(mask+1)) (SetTable.bits x)).bind (λj=>some (o.setIfInBounds j (some K),K+1))=none:=by rw[hf];rfl
    have p:(l.foldl (λ(c:Option (Array (Option Nat)×Nat)) (h:Int)=>do
     let (owner,k) <- c
     let j <- SetTable.layClean.free mask owner (SetTable.turns mask) (SetTable.bits h%(mask+1)) (SetTable.bits h)
     pure (owner.setIfInBounds j (some k),k+1)) ((SetTable.layClean.free mask o (SetTable.turns mask) (SetTable.bits x%(mask+1)) (SetTable.bits x)).bind (λj=>some (o.setIfInBounds j (some K),K+1))))=some (f,d):=e
    rw[s,no]at p;cases p
   |some j=>
    have p:(l.foldl (λ(c:Option (Array (Option Nat)×Nat)) (h:Int)=>do
     let (owner,k) <- c
     let j <- SetTable.layClean.free mask owner (SetTable.turns mask) (SetTable.bits h%(mask+1)) (SetTable.bits h)
     pure (owner.setIfInBounds j (some k),k+1)) ((SetTable.layClean.free mask o (SetTable.turns mask) (SetTable.bits x%(mask+1)) (SetTable.bits x)).bind (λj=>some (o.setIfInBounds j (some K),K+1))))=some (f,d):=e
    rw[hf]at p;have:=q _ _ _ _ p;rw[this,ZD];lia
 have u:=cnt _ _ _ _ _ e;rw[Xn,Yg]at u;exact⟨by lia,b⟩
theorem Mb(owner:Array (Option Nat)):∀(n:Nat),(∀i j k:Nat,((List.range n).filterMap λj=>(owner.getD j none).map (λv=>(j,v)))[i]?=some (j,k)->j<n/\owner[j]?=some (some k)) /\
  (∀(i c:Nat)(p f:Nat×Nat),i<c->((List.range n).filterMap λj=>(owner.getD j none).map (λv=>(j,v)))[i]?=some p->((List.range n).filterMap λj=>(owner.getD j none).map (λv=>(j,v)))[c]?=some f->p.1<f.1) /\
  (∀j k:Nat,j<n->owner[j]?=some (some k)->∃i:Nat,((List.range n).filterMap λj=>(owner.getD j none).map (λv=>(j,v)))[i]?=some (j,k))
 |0=>⟨λi j k h=>by simp at h,λi c p f _ h=>by simp at h,λj k h=>absurd h (Yi _)⟩
 |n+1=>by
  obtain⟨h1,h2,m⟩:=Mb owner n;rw[XE,List.filterMap_append];generalize B:((List.range n).filterMap λj=>(owner.getD j none).map (λv=>(j,v)))=L at h1 h2 m;have w:∀v,owner.getD n none=some v->owner[n]?=some (some v):=λv r=>by
   by_cases d:n<owner.size
   ·have e:owner.getD n none=owner[n]:=by simp[Array.getD,d]
    rw[ZR d,<- e,r]
   ·have e:owner.getD n none=none:=by simp[Array.getD,d]
    rw[e]at r;cases r
  cases ho:owner.getD n none with
  |none=>
   have e:[n].filterMap (λj=>(owner.getD j none).map (λv=>(j,v)))=[]:=by
    rw[ZY,ho];rfl
   rw[e,XC];refine⟨λi j k h=>⟨Yy (h1 i j k h).1,(h1 i j k h).2⟩,h2,λj k A a=>?_⟩;by_cases l:j=n
   ·subst l;have d:=(ZC.mp a).1;have e:owner.getD j none=owner[j]:=by simp[Array.getD,d]
    rw[ZR d]at a;rw[e,Zu a]at ho;cases ho
   ·exact m j k 'a' a
  |some v=>
   have e:[n].filterMap (λj=>(owner.getD j none).map (λv=>(j,v)))=[(n,v)]:=by
    rw[ZY,ho];rfl
   rw[e];have q:∀(i:Nat) p,L[i]?=some p->p.1<n:=λi p h=>(h1 i p.1 p.2 h).1;refine⟨λi j k h=>?_,λi c p f u h b=>?_,λj k A a=>?_⟩
   ·by_cases g:i<L.length
    ·rw[Zm g]at h;exact⟨Yy (h1 i j k h).1,(h1 i j k h).2⟩
    ·rw[Zs 'a']at h;have:i-L.length=0:=by
      have:=(cx h).1;simp at this;exact this
     rw[this]at h;have h:=Zu h;cases h;exact⟨Yw _,w v ho⟩
   ·have s:=(cx b).1;rw[Zk]at s;have s:c<L.length+1:=s;rw[Zm 'a']at h;by_cases y:c<L.length
    ·rw[Zm y]at b;exact h2 i c p f u h b
    ·rw[Zs 'a']at b;have x:c-L.length=0:=by lia
     rw[x]at b;have b:=Zu b;rw[<- b];exact q i p h
   ·by_cases l:j=n
    ·subst l;have:=w v ho;rw[this]at a;cases a;exact⟨L.length,by rw[Zs (Zg _),W2];rfl⟩
    ·obtain⟨i,g⟩:=m j k 'a' a;exact⟨i,by rw[Zm (cx g).1];exact g⟩
theorem Dl{g:Type}{es:Array g}{b:Array Nat}(h:∀v∈b,v<es.size){i k:Nat}(e:b[i]?=some k):(b.filterMap (es[·]?))[i]?=es[k]?:=by
 have key:∀(l:List Nat),(∀v∈l,v<es.size)->∀i k:Nat,l[i]?=some k->(l.filterMap (es[·]?))[i]?=es[k]?:=λl=>by
  induction l with
  |nil=>intro _ i k e;simp at e
  |cons a l j=>
   intro d i k e;have f:=d a Zw;rw[ZY,show es[a]?=some es[a] by simp[f]];simp only;cases i with
   |zero=>
    have:a=k:=by simpa using e
    subst this;simp[f]
   |succ i=>
    rw[List.getElem?_cons_succ]at e ⊢;exact j (λv c=>d v (Zn _ c)) i k e
 have:=key b.toList (λv c=>h v (by simpa using c)) i k (by rw[Xf];exact e);rw[<- Xf,Array.toList_filterMap];exact this
theorem xb0{mask finger moves:Nat}{led plain:Bool}{hs:Array Int}{t:av}{c:Array Nat}(e:SetTable.laid mask finger moves led plain hs=some (t,c))(P:cH t hs.size)(s:∀v∈c,v<hs.size)(hz:c.size=hs.size):
  Good t (c.filterMap (hs[·]?)):=by
 unfold SetTable.laid at e;cases hl:SetTable.layClean mask hs with
 |none=>rw[hl]at e;cases e
 |some d=>
  rw[hl]at e;have e:=Zu e;have g:=xm2 hl;obtain⟨h1,h2,u⟩:=Mb d (mask+1);have r:t={mask:=mask,place:=((((List.range (mask+1)).filterMap λj=>(d.getD j none).map (λv=>(j,v))).map (·.1)).toArray),dummies:=#[],finger:=finger,led:=led,moves:=moves,plain:=plain}:=(Prod.mk.inj e).1.symm;have D:c=((((List.range (mask+1)).filterMap λj=>(d.getD j none).map (λv=>(j,v))).map (·.2)).toArray):=(Prod.mk.inj e).2.symm;generalize ((List.range (mask+1)).filterMap λj=>(d.getD j none).map (λv=>(j,v)))=L at h1 h2 u r D;have l:∀i j:Nat,t.place[i]?=some j<->∃k,L[i]?=some (j,k):=λi j=>by
   rw[r];show((L.map (·.1)).toArray)[i]?=some j<->_;rw[XS,Zf];constructor
   ·intro h;obtain⟨p,H,rfl⟩:=Zp.mp h;exact⟨p.2,H⟩
   ·rintro⟨k,h⟩;rw[h];rfl
  have C:t.mask=mask:=by rw[r]
  refine⟨?_,SI λa b x y J N R=>?_,λi j x Q A=>?_⟩
  ·rw[AQ s,hz];exact P
  ·obtain⟨k,f⟩:=(l a x).mp N;obtain⟨U,O⟩:=(l b y).mp R;exact h2 a b _ _ J f O
  ·obtain⟨k,f⟩:=(l i j).mp Q;have M:c[i]?=some k:=by
    rw[D,XS,Zf,f];rfl
   rw[Dl s M]at A;obtain⟨_,b⟩:=g.wy j k (h1 i j k f).2;obtain⟨m,I,K,G⟩:=b x (by rw[Xf];exact A);have q:(tm mask).mask=t.mask:=C.symm;refine⟨m,by rw[C];exact I,?_,λB F=>?_⟩
   ·rw[<- HY q,<- CK q];exact K
   ·obtain⟨v,E⟩:=G B F;rw[<- HY q,<- CK q];have S:(cK (tm mask) B ((tm mask).probeStart x)).j<mask+1:=by
     have:=(ZC.mp E).1;rw[g.sz]at this;exact this
    obtain⟨w,T⟩:=u _ v S E;exact⟨w,(l w _).mpr ⟨v,T⟩⟩
end cY
namespace cY
open PySem PySem.Spec PyProof.Rows
theorem RV{t:av}(x:t.dummies=#[])(f:Nat->Int)(h:Int)(st:SetTable.Probe):∀(r m M:Nat),M-m<r->m<=M->st.dummy=none->t.slot (cK t M st).j=.empty ->
  (∃q j,m<=q/\q<=M/\SetTable.probe.go t f h r (cK t m st)=some (.empty j none)/\(cK t q st).j=j/\t.slot j=.empty/\∀p,m<=p->p<q->∃i:Nat,t.place[i]?=some (cK t p st).j/\f i≠h) \/
  (∃q j i,m<=q/\q<M/\SetTable.probe.go t f h r (cK t m st)=some (.candidate j i (cK t (q+1) st))/\(cK t q st).j=j/\t.slot j=.live i/\t.place[i]?=some j/\f i=h/\∀p,m<=p->p<q->∃i:Nat,t.place[i]?=some (cK t p st).j/\f i≠h)
 |0,m,M,h1,_,_,_=>absurd h1 (Yi _)
 |r+1,m,M,h1,h2,A,v=>by
  unfold SetTable.probe.go;have E:(cK t m st).dummy=none:=by rw[HS];exact A
  have s:t.advance (cK t m st)=cK t (m+1) st:=by rw[tM];rfl
  rcases Mn x (cK t m st).j with e|⟨i,e,y⟩
  ·rw[e];exact .inl ⟨m,_,Zg _,h2,by rw[E],rfl,e,λp a b=>absurd a 'a'⟩
  ·rw[e];have B:m<M:=by
    rcases Nat.lt_or_ge m M with z|z
    ·exact z
    ·have:m=M:=by lia
     subst this;rw[e]at v;cases v
   by_cases u:f i==h
   ·refine .inr ⟨m,_,i,Zg _,B,?_,rfl,e,y,by simpa using u,λp a b=>absurd a 'a'⟩;simp only;rw[Zr u,s]
   ·simp only;rw[Zi u,s];have ext:∀q,(∀p,m+1<=p->p<q->∃i:Nat,t.place[i]?=some (cK t p st).j/\f i≠h)->∀p,m<=p->p<q->∃i:Nat,t.place[i]?=some (cK t p st).j/\f i≠h:=λq D p a b=>by
     by_cases z:p=m
     ·subst z;exact⟨i,y,by simpa using u⟩
     ·exact D p 'a' b
    rcases RV x f h st r (m+1) M 'a' B A v with⟨q,j,a,b,c,d,w,g⟩|⟨q,j,C,a,b,c,d,w,g,k,l⟩
    ·exact .inl ⟨q,j,by lia,b,c,d,w,ext q g⟩
    ·exact .inr ⟨q,j,C,by lia,b,c,d,w,g,k,ext q l⟩
theorem UK{t:av}{f:Nat->Int}{h:Int}{st:SetTable.Probe}{u:Option SetTable.Met}{s M:Nat}(D:t.probe f h (cK t s st)=u)(C:t.dummies=#[])(H:M<10*SetTable.turns t.mask)(h2:s<=M)(F:st.dummy=none)(E:t.slot (cK t M st).j=.empty)
  {es:Array (Int×aa)}(v:∀(i:Nat) e,es[i]?=some e->f i=e.1) (G:t.place.size=es.size):
  (∃m j,s<=m/\m<=M/\u=some (.empty j none)/\(cK t m st).j=j/\t.slot j=.empty/\∀r,s<=r->r<m->∃i:Nat,t.place[i]?=some (cK t r st).j/\∀e,es[i]?=some e->e.1≠h) \/
  (∃m j i,s<=m/\m<M/\u=some (.candidate j i (cK t (m+1) st))/\(cK t m st).j=j/\t.slot j=.live i/\t.place[i]?=some j/\(∀e,es[i]?=some e->e.1=h)/\∀r,s<=r->r<m->∃i:Nat,t.place[i]?=some (cK t r st).j/\∀e,es[i]?=some e->e.1≠h):=by
 subst D;rcases RV C f h st (10*SetTable.turns t.mask) s M 'a' h2 F E with⟨m,j,a,b,c,d,A,g⟩|⟨m,j,B,a,b,c,d,A,g,k,l⟩
 ·exact .inl ⟨m,j,a,b,c,d,A,λr x y=>let ⟨i,p,q⟩:=g r x y;⟨i,p,λe z w=>q (by rw[v i e z];exact w)⟩⟩
 ·exact .inr ⟨m,j,B,a,b,c,d,A,g,λe z=>by rw[<- v B e z];exact k,λr x y=>let ⟨i,p,q⟩:=l r x y;⟨i,p,λe z w=>q (by rw[v i e z];exact w)⟩⟩
section
variable{K:Type}[DecidableEq K]{knd:KeyKind prog w K}{A:au}{E:aa->af->Prop}{s:af}
theorem xI9{t:av}{es:Array (Int×aa)}{c:List K}{h:ao}(G:Good t (es.map (·.1)))(J:∀(i:Nat) e,es[i]?=some e->∃a C,e.2=.ref a/\IsTupleKey knd h C a/\e.1=tupleKeyHash knd C){f j:Nat}(q:(cK t f (t.probeStart (tupleKeyHash knd c))).j=j)(d:t.slot j=.empty)
  (P:∀y,y<f->∃i:Nat,t.place[i]?=some (cK t y (t.probeStart (tupleKeyHash knd c))).j/\∀e a,es[i]?=some e->e.2=.ref a->¬IsTupleKey knd h c a):
  ∀(i:Nat) e a,es[i]?=some e->e.2=.ref a->¬IsTupleKey knd h c a:=by
 intro i e a k x B;have g:cH t es.size:=by have:=G.gr;rw[Yr]at this;exact this
 obtain⟨R,F,u,O,H⟩:=J i e k;rw[x]at u;cases u;have D:F=c:=O.inj B;subst D;have N:i<t.place.size:=by rw[g.pl];exact(ZC.mp k).1
 have p:t.place[i]?=some t.place[i]:=ZR N;obtain⟨m,Q,l,v⟩:=G.wy i _ e.1 p (by rw[Xd,k];rfl);rw[H]at l v;rcases Vi m f with z|z|z
 ·obtain⟨I,b,M⟩:=P m z;rw[l]at b;have L:=Dm G.ri b;have r:=Dm G.ri p;rw[L]at r;cases r;exact M e a k x B
 ·subst z;rw[l]at q;rw[<- q,Dm G.ri p]at d;cases d
 ·obtain⟨I,b⟩:=v f z;rw[q]at b;rw[Dm G.ri b]at d;cases d
theorem xz7{a b:ae}{o:aw}{es:Array (Int×aa)}{ep:Nat}{t:av}{h:List K}{Q:SetFound->af->Prop}(Y:A.units<cLine)
  (D:s.heap.get? a=some o) (x:o.data=.set es ep t) (G:Good t (es.map (·.1))) (T:IsTupleKey knd s.heap h b)
  (I:∀(i:Nat) e,es[i]?=some e->∃k u,e.2=.ref k/\IsTupleKey knd s.heap u k/\e.1=tupleKeyHash knd u)
  (there:(∃(i:Nat)(e:Int×aa)(k:ae),es[i]?=some e/\e.2=.ref k/\IsTupleKey knd s.heap h k)->Q (.there none) s)
  (free:∀j,(∀(i:Nat) e k,es[i]?=some e->e.2=.ref k->¬IsTupleKey knd s.heap h k)->Way t (tupleKeyHash knd h) j->(∀i:Nat,t.place[i]?≠some j)->Q (.free j false) s)
  {M:Nat}(hM:M<10*SetTable.turns t.mask) (L:t.slot (cK t M (t.probeStart (tupleKeyHash knd h))).j=.empty):
  ∀(d r f:Nat)(S:Option SetTable.Probe),M-r<=d->r<=M->d<f->S.getD (t.probeStart (tupleKeyHash knd h))=cK t r (t.probeStart (tupleKeyHash knd h)) ->
   (∀l,l<r->∃i:Nat,t.place[i]?=some (cK t l (t.probeStart (tupleKeyHash knd h))).j/\∀e k,es[i]?=some e->e.2=.ref k->¬IsTupleKey knd s.heap h k) ->
   ag (aj prog w) A (setSearchFrom a (.ref b) (tupleKeyHash knd h) true f S) Q E s:=by
 have g:cH t es.size:=by have:=G.gr;rw[Yr]at this;exact this
 intro d
 induction d using Nat.strongRecOn with
 |_ d ih=>
  intro r f S h1 h2 h3 kK C;cases f with
  |zero=>exact absurd h3 (Yi _)
  |succ f=>
   unfold setSearchFrom;refine Za (Z4 D x g.fits ?_);dsimp only;rw[g.way];simp only[Zv,Z0];rw[kK];split
   rotate_left
   ·rename_i O;exact Or.elim (UK rfl g.du hM h2 rfl L (es:=es) (λi e H=>by show(es[i]?.map (·.1)).getD 0=e.1;rw[H];rfl) g.pl) (λ⟨_,_,_,_,e,_⟩=>(O _ e).elim) (λ⟨_,_,_,_,_,e,_⟩=>(O _ e).elim)
   rename_i met O;rcases UK O g.du hM h2 rfl L (es:=es) (λi e H=>by show(es[i]?.map (·.1)).getD 0=e.1;rw[H];rfl) g.pl with⟨m1,j,a1,a2,a3,a4,a5,a6⟩|⟨m1,j,i,a1,a2,a3,a4,a5,a6,a7,a8⟩
   ·cases a3;dsimp only;refine Zc ?_;have nj:∀i:Nat,t.place[i]?≠some j:=λi z=>by rw[Dm G.ri z]at a5;cases a5
    have all:∀l,l<m1->∃i:Nat,t.place[i]?=some (cK t l (t.probeStart (tupleKeyHash knd h))).j/\∀e k,es[i]?=some e->e.2=.ref k->¬IsTupleKey knd s.heap h k:=λl N=>by
     by_cases z:l<r
     ·exact C l z
     ·obtain⟨F,X,V⟩:=a6 l 'a' N;refine⟨F,X,λe c p q J=>V e p ?_⟩;obtain⟨c',kc,B,W,U⟩:=I F e p;rw[q]at B;cases B;rw[U,W.inj J]
    exact free j (xI9 G I a4 a5 all) ⟨m1,by lia,a4,λl N=>let ⟨i,R,_⟩:=all l N;⟨i,R⟩⟩ nj
   ·cases a3;dsimp only;have R:i<es.size:=by
     have:=(ZC.mp a6).1;rw[g.pl]at this;exact this
    obtain⟨k,u,e2,P,e3⟩:=I i es[i] (ZR R);have v:es[i]?=some (es[i].1,.ref k):=by
     rw[<- e2];simp[R]
    have Z:t.sameMemory t.moves t.mask=some true:=by
     unfold SetTable.sameMemory;rw[Zr 'b']
    have seen:∀y∈(es.filter (·.1==tupleKeyHash knd h)).toList.map (·.2),∃b fb,y=.ref b/\IsTupleKey knd s.heap fb b:=λy hy=>by
     obtain⟨e,Bl,rfl⟩:=ZV.mp hy;have:e∈es:=(Array.mem_filter.mp (show e∈es.filter (·.1==tupleKeyHash knd h) by simpa using Bl)).1;obtain⟨n,hn,en⟩:=Array.mem_iff_getElem.mp this;obtain⟨JP,zi,p,q,_⟩:=I n e (by rw[ZR hn,en]);exact⟨JP,zi,p,q⟩
    have nx:u≠h->ag (aj prog w) A (setSearchFrom a (.ref b) (tupleKeyHash knd h) true f (some (cK t (m1+1) (t.probeStart (tupleKeyHash knd h))))) Q E s:=λm=>by
     refine ih (d-1) 'a' (m1+1) f _ 'a' 'a' 'a' rfl λl N=>?_;by_cases z:l<r
     ·exact C l z
     ·by_cases z2:l=m1
      ·subst z2;refine⟨i,by rw[a4];exact a6,λe c p q J=>m ?_⟩;rw[v]at p;cases p;cases q;exact P.inj J
      ·obtain⟨F,X,V⟩:=a8 l 'a' 'a';refine⟨F,X,λe c p q J=>V e p ?_⟩;obtain⟨c',kc,B,W,U⟩:=I F e p;rw[q]at B;cases B;rw[U,W.inj J]
    have yes:u=h->Q (.there none) s:=λH=>there ⟨i,_,k,v,rfl,by rw[<- H];exact P⟩;cases hl:t.led with
    |false=>
     simp only[WC,Yt];refine Za (R5 T ?_ seen);simp only[Zv,Z0];rw[v];dsimp only;refine Za (ZK (Wq Y P T ?_));by_cases m:u=h
     ·rw[Zq m];refine Za (Z4 D x g.fits ?_);dsimp only;simp only[Vk,Yt];exact Zc (yes m)
     ·rw[Zy m];refine Za (Z4 D x g.fits ?_);dsimp only;simp only[X9,Zv,Z0];rw[Z];dsimp only;simp only[Yt];rw[a5];dsimp only;rw[v];dsimp only;refine Za (XN ?_);refine Za (Zc ?_);simp only[Yt];exact nx m
    |true=>
     simp only[Wh,Zv,Z0];rw[v];dsimp only;refine Za (ZK (Wq Y P T ?_));by_cases m:u=h
     ·rw[Zq m];refine Za (Z4 D x g.fits ?_);dsimp only;simp only[Vk,Yt];exact Zc (yes m)
     ·rw[Zy m];refine Za (Z4 D x g.fits ?_);dsimp only;simp only[X9,Zv,Z0];rw[Z];dsimp only;simp only[Yt];rw[a5];dsimp only;rw[v];dsimp only;refine Za (XN ?_);refine Za (Zc ?_);simp only[Yt];exact nx m
end
end cY
namespace cY
open PySem
theorem T7{mask:Nat}(P:Array (Option Nat)->Nat->Prop)(step:∀o K x j,P o K->SetTable.layClean.free mask o (SetTable.turns mask) (SetTable.bits x%(mask+1)) (SetTable.bits x)=some j->P (o.setIfInBounds j (some K)) (K+1)):
  ∀(g:List Int)(o f:Array (Option Nat))(K d:Nat),P o K ->
  (g.foldl (λ(c:Option (Array (Option Nat)×Nat)) (h:Int)=>do
   let (owner,k) <- c
   let j <- SetTable.layClean.free mask owner (SetTable.turns mask) (SetTable.bits h%(mask+1)) (SetTable.bits h)
   pure (owner.setIfInBounds j (some k),k+1)) (some (o,K)))=some (f,d)->P f d/\d=K+g.length
 |[],o,f,K,d,p,e=>by
  have:=Zu e;cases this;exact⟨p,rfl⟩
 |x::g,o,f,K,d,p,e=>by
  rw[Z9]at e;have i:(g.foldl (λ(c:Option (Array (Option Nat)×Nat)) (h:Int)=>do
     let (owner,k) <- c
     let j <- SetTable.layClean.free mask owner (SetTable.turns mask) (SetTable.bits h%(mask+1)) (SetTable.bits h)
     pure (owner.setIfInBounds j (some k),k+1)) ((SetTable.layClean.free mask o (SetTable.turns mask) (SetTable.bits x%(mask+1)) (SetTable.bits x)).bind (λj=>some (o.setIfInBounds j (some K),K+1))))=some (f,d):=e
  cases hf:SetTable.layClean.free mask o (SetTable.turns mask) (SetTable.bits x%(mask+1)) (SetTable.bits x)with
  |none=>
   exfalso;have no:∀l:List Int,(l.foldl (λ(c:Option (Array (Option Nat)×Nat)) (h:Int)=>do
     let (owner,k) <- c
     let j <- SetTable.layClean.free mask owner (SetTable.turns mask) (SetTable.bits h%(mask+1)) (SetTable.bits h)
     pure (owner.setIfInBounds j (some k),k+1)) none)=none:=λl=>by
    induction l with
    |nil=>rfl
    |cons a l m=>rw[Z9];exact m
   rw[hf]at i;have q:=no g;rw[show(none:Option Nat).bind (λj=>some (o.setIfInBounds j (some K),K+1))=none from rfl,q]at i;cases i
  |some j=>
   rw[hf]at i;obtain⟨a,b⟩:=T7 P step g (o.setIfInBounds j (some K)) f (K+1) d (step o K x j p hf) i;exact⟨a,by rw[b,ZD];lia⟩
theorem xb1{mask:Nat}{hs:Array Int}{owner:Array (Option Nat)}(h:SetTable.layClean mask hs=some owner):owner.size=mask+1/\∀k,k<hs.size->∃j:Nat,owner[j]?=some (some k):=by
 unfold SetTable.layClean at h;rw[<- W5]at h;obtain⟨⟨o,u⟩,e,rfl⟩:=Zp.mp h;obtain⟨⟨a,b⟩,c⟩:=T7 (λo K=>o.size=mask+1/\∀k,k<K->∃j:Nat,o[j]?=some (some k)) (λo K x j p r=>by
  obtain⟨s,v⟩:=p;obtain⟨m,h1,h2,w,i,A⟩:=ME (mask:=mask) (owner:=o) (SetTable.turns mask) _ _ ((tm mask).probeStart x) j (Xk (W3 _ (WB _))) ⟨rfl⟩ r;have f:j<o.size:=by lia
  have q:o.getD j (some 0)=o[j]:=by simp[Array.getD,f]
  rw[q]at i;refine⟨by rw[Wg];exact s,λk d=>?_⟩;by_cases z:k=K
  ·exact⟨j,by rw[Y4,Zr rfl,Zr f,z]⟩
  ·obtain⟨l,g⟩:=v k 'a';refine⟨l,?_⟩;rw[Y4];by_cases y:j=l
   ·subst y;rw[ZR f]at g;rw[Zu g]at i;cases i
   ·rw[Zi y];exact g) hs.toList _ o 0 u ⟨by simp,λk d=>absurd d (Yi _)⟩ e
 refine⟨a,λk d=>b k ?_⟩;rw[c,Xn,Yg];exact d
theorem q17{mask finger moves:Nat}{led plain:Bool}{hs:Array Int}{t:av}{a:Array Nat}(e:SetTable.laid mask finger moves led plain hs=some (t,a)):∀k,k<hs.size->∃i:Nat,a[i]?=some k:=by
 unfold SetTable.laid at e;cases hl:SetTable.layClean mask hs with
 |none=>rw[hl]at e;cases e
 |some b=>
  rw[hl]at e;have e:=Zu e;obtain⟨sz,g⟩:=xb1 hl;obtain⟨h1,h2,l⟩:=Mb b (mask+1);have h:a=((((List.range (mask+1)).filterMap λj=>(b.getD j none).map (λv=>(j,v))).map (·.2)).toArray):=(Prod.mk.inj e).2.symm;intro k f;obtain⟨j,c⟩:=g k f;have m:=(ZC.mp c).1;obtain⟨i,d⟩:=l j k 'a' c;exact⟨i,by rw[h,XS,Zf,d];rfl⟩
end cY
namespace cY
open PySem PySem.Spec PyProof.Rows
section
variable{K:Type}[DecidableEq K]{knd:KeyKind prog w K}{A:au}{E:aa->af->Prop}{s:af}
structure gv(knd:KeyKind prog w K)(h:ao)(a:ae)(Ks:List (List K)):Prop where
 ex:∃o es ep t,h.get? a=some o/\o.ExactSet/\o.data=.set es ep t/\Good t (es.map (·.1))/\t.tooFull=false/\t.mask<=8*Ks.length+8/\es.size=Ks.length/\Ks.Nodup /\
  (∀(i:Nat) e,es[i]?=some e->∃b ks,e.2=.ref b/\ks∈Ks/\IsTupleKey knd h ks b/\e.1=tupleKeyHash knd ks)/\∀ks∈Ks,∃(i:Nat)(e:Int×aa)(b:ae),es[i]?=some e/\e.2=.ref b/\IsTupleKey knd h ks b
theorem qB8{a:Type}{xs:Array a}{p:Nat}(c:p<=xs.size){x e:a}{i:Nat}(h:(SetTable.insertAt xs p x)[i]?=some e):e=x\/∃b:Nat,xs[b]?=some e:=by
 rw[qG _ _ c]at h;split at h
 ·exact .inr ⟨_,h⟩
 ·split at h
  ·exact .inl (Zu h).symm
  ·exact .inr ⟨_,h⟩
theorem qB9{a:Type}{xs:Array a}{p:Nat}(b:p<=xs.size){x e:a}{i:Nat}(h:xs[i]?=some e):∃c:Nat,(SetTable.insertAt xs p x)[c]?=some e:=by
 by_cases z:i<p
 ·exact⟨i,by rw[qG _ _ b,Zr z];exact h⟩
 ·exact⟨i+1,by rw[qG _ _ b,Zi 'a',Zi 'a'];exact h⟩
theorem qO3{a c:Type}(f:a->c)(xs:Array a)(p:Nat)(b:p<=xs.size)(x:a):(SetTable.insertAt xs p x).map f=SetTable.insertAt (xs.map f) p (f x):=by
 apply Array.ext_getElem?
 intro i;rw[Xd,qG _ _ b,qG _ _ (by rw[Yr];exact b)];split
 ·rw[Xd]
 ·split
  ·rfl
  ·rw[Xd]
theorem Good.plain{t:av}{hs:Array Int}(g:Good t hs)(b:Bool):Good {t with plain:=b} hs:=⟨⟨g.gr.pl,g.gr.du,g.gr.ma,g.gr.le⟩,g.ri,λi j x h1 h2=>by
 obtain⟨m,a,d,c⟩:=g.wy i j x h1 h2;have e:t.mask=({t with plain:=b}:av).mask:=rfl;exact Way.more (t:=t) ⟨m,a,d,c⟩ e λk f=>f⟩
theorem xm3{a b:ae}{f:List K}{C:List (List K)}{Q:Bool->af->Prop}(hu:A.units<cLine)(S:gv knd s.heap a C)(hk:IsTupleKey knd s.heap f b)(Qi:∀o r m,s.heap.get? b=some o->o.data=.seq r m->∀v∈r.toList,Hb v)
  (hsz:C.length<1200) (old:f∈C->Q false s) (q:f∉C->∀h',Heap.SameBut a s.heap h'->gv knd h' a (f::C)->Q true {s with heap:=h'}):
  ag (aj prog w) A (setAddHashed a (.ref b) (tupleKeyHash knd f)) Q E s:=by
 obtain⟨o,h,ep,t,I,kE,H,G,hf,wA,Eu,wQ,jY,Bn⟩:=S.ex;have g:cH t h.size:=by have:=G.gr;rw[Yr]at this;exact this
 unfold setAddHashed setAddHashedIn;refine ZK (Za (Z4 I H g.fits ?_));dsimp only;have P1:byScan (.ref b) h=false:=rfl;rw[P1];simp only[Zv,Z0];obtain⟨m,hm,rl⟩:=g.meets (tupleKeyHash knd f);have wS:m<100000:=by
  unfold SetTable.turns at hm;lia
 refine Za (xz7 hu I H G hk (λi e D=>?_) (λjO=>?_) (λj wH Oq hnj=>?_) hm rl m 0 100000 none 'a' (ZU _) wS rfl λm' eU=>absurd eU (Yi _))
 ·obtain⟨l,u,P,e2,R,e4⟩:=jY i e D;exact⟨l,u,P,R,e4⟩
 ·dsimp only;refine Zc (old ?_);obtain⟨i,e,l,F,N,L⟩:=jO;obtain⟨JP,u,P,e2,R,e4⟩:=jY i e F;rw[N]at P;cases P;rw[L.inj R];exact e2
 have pH:f∉C:=λz=>by
  obtain⟨i,e,l,F,N,L⟩:=Bn f z;exact wH i e l F N L
 replace q:=q pH
 dsimp only;refine Za (Z4 I H g.fits ?_);dsimp only;have U:=G.put hf hnj Oq;have T:(t.put j).2<=h.size:=by
  have:=(Ht G.ri j).1;rw[g.pl]at this;exact this
 have ep1:(SetTable.insertAt h (t.put j).2 (tupleKeyHash knd f,Value.ref b)).map (·.1)=SetTable.insertAt (h.map (·.1)) (t.put j).2 (tupleKeyHash knd f):=qO3 _ _ _ T _;rw[<- ep1]at U;have zE:(t.put j).1.mask=t.mask:=rfl;generalize hp:t.put j=tp at U T zE;obtain⟨t1,p⟩:=tp;dsimp only at U T zE ⊢;have vI:t1.mask=t.mask:=zE;have Jw:b≠a:=CU hk I H;have qX:∀{h1:ao},Heap.SameBut a s.heap h1->∀(i:Nat) e,(SetTable.insertAt h p (tupleKeyHash knd f,Value.ref b))[i]?=some e->∃l u,e.2=.ref l/\u∈f::C/\IsTupleKey knd h1 u l/\e.1=tupleKeyHash knd u:=λ{h1} hs i e D=>by
  rcases qB8 T D with rfl|⟨Z,D⟩
  ·exact⟨b,f,rfl,Zw,AO hk Jw hs,rfl⟩
  ·obtain⟨l,u,P,e2,R,e4⟩:=jY Z e D;exact⟨l,u,P,Zn _ e2,AO R (CU R I H) hs,e4⟩
 have FC:∀{h1:ao},Heap.SameBut a s.heap h1->∀u∈f::C,∃(i:Nat)(e:Int×aa)(l:ae),(SetTable.insertAt h p (tupleKeyHash knd f,Value.ref b))[i]?=some e/\e.2=.ref l/\IsTupleKey knd h1 u l:=λ{h1} hs u X=>by
  rcases ZB.mp X with rfl|X
  ·exact⟨p,_,b,by rw[qG _ _ T,Zi (YH _),Zr rfl],rfl,AO hk Jw hs⟩
  ·obtain⟨i,e,l,F,N,L⟩:=Bn u X;obtain⟨Z,fY⟩:=qB9 T (x:=(tupleKeyHash knd f,Value.ref b)) F;exact⟨Z,e,l,fY,N,AO L (CU L I H) hs⟩
 have W:(f::C).Nodup:=YJ.mpr ⟨pH,wQ⟩;have J:(SetTable.insertAt h p (tupleKeyHash knd f,Value.ref b)).size=h.size+1:=Ig _ _ _;have Lj:h.size+1=(f::C).length:=by rw[ZD,Eu]
 have M:h.size+1<=sizeLine:=by rw[YV];lia
 have y:∀B:av,Good B ((SetTable.insertAt h p (tupleKeyHash knd f,Value.ref b)).map (·.1))->B.mask=t.mask->ag (aj prog w) A (do
   storeSet a (SetTable.insertAt h p (tupleKeyHash knd f,Value.ref b)) B
   if(!false&&B.tooFull)=true then do
     setRelay a (SetTable.grown (h.size+1))
     pure true
    else pure true) Q E s:=λB G2 wR=>by
  have g2:cH B (h.size+1):=by have:=G2.gr;rw[Yr,J]at this;exact this
  refine Za (WD I H ?_ (by rw[J];exact M));have wW:=IQ (es':=SetTable.insertAt h p (tupleKeyHash knd f,Value.ref b)) (t':=B) I H;have yH:=Yh s.heap a (Obj.putSet (SetTable.insertAt h p (tupleKeyHash knd f,Value.ref b)) B);cases ht:B.tooFull with
  |false=>
   simp only[X9,Zv,Z0];refine Zc (q _ yH ⟨_,_,_,B,wW,kE,rfl,G2,ht,by rw[ZD];lia,by rw[J];exact Lj,W,qX yH,FC yH⟩)
  |true=>
   simp only[WC,Vk,Yt];refine Za ?_;unfold setRelay;refine Za (Z4 wW rfl (by rw[J];exact g2.fits) ?_);dsimp only;have O:SetTable.grown (h.size+1)=(h.size+1)*4:=by
    unfold SetTable.grown;rw[Zi 'a']
   obtain⟨k,ek,_,_,wZ⟩:=LS (n:=SetTable.grown (h.size+1)) (by rw[O];lia);rw[Zi (by rw[ek,YV];rw[O]at wZ;lia)];obtain⟨t3,d,er,g3,Ov,Ou,_,eo,ev⟩:=VL (t:=B) (hs:=(SetTable.insertAt h p (tupleKeyHash knd f,Value.ref b)).map (·.1)) (wanted:=SetTable.grown (h.size+1)) (by rw[O];lia) (by rw[Yr,J,O];lia);have G3:=xb0 er g3 ev eo;have V:=q17 er;rw[Yr]at g3 eo ev V;rw[er];have uw:(d.filterMap ((SetTable.insertAt h p (tupleKeyHash knd f,Value.ref b))[·]?)).size=h.size+1:=by rw[AQ ev,eo,J]
   refine Za ?_;show ag _ _ (if((d.filterMap ((SetTable.insertAt h p (tupleKeyHash knd f,Value.ref b))[·]?)).size != (SetTable.insertAt h p (tupleKeyHash knd f,Value.ref b)).size)=true then _ else _) _ _ _;rw[Zi (by rw[uw,J];simp)];refine Zc ?_;dsimp only;refine WD wW rfl ?_ (by rw[uw];exact M);have vM:=IQ (es':=d.filterMap ((SetTable.insertAt h p (tupleKeyHash knd f,Value.ref b))[·]?)) (t':=t3) wW rfl;have vG:=yH.trans (Yh _ a (Obj.putSet (d.filterMap ((SetTable.insertAt h p (tupleKeyHash knd f,Value.ref b))[·]?)) t3));have Y:(d.filterMap ((SetTable.insertAt h p (tupleKeyHash knd f,Value.ref b))[·]?)).map (·.1)=d.filterMap (((SetTable.insertAt h p (tupleKeyHash knd f,Value.ref b)).map (·.1))[·]?):=by
    apply Array.ext_getElem?
    intro i;rw[Xd];by_cases hi:i<d.size
    ·have ei:d[i]?=some d[i]:=ZR hi;rw[Dl ev ei,Dl (by rw[Yr];exact ev) ei,Xd]
    ·rw[XB (by rw[AQ ev];lia),XB (by rw[AQ (by rw[Yr];exact ev)];lia)]
     rfl
   refine Zc (q _ vG ⟨_,_,_,t3,vM,kE,rfl,by rw[Y];exact G3,?_,?_,by rw[uw];exact Lj,W,λi e D=>?_,λu X=>?_⟩)
   ·unfold SetTable.tooFull;rw[g3.fill,J];rw[O]at Ov;exact Zy 'a'
   ·rw[O]at Ou;rw[<- Lj];lia
   ·have hi:i<d.size:=by
     have:=(ZC.mp D).1;rw[AQ ev]at this;exact this
    rw[Dl ev (ZR hi)]at D;exact qX vG _ e D
   ·obtain⟨i,e,l,F,N,L⟩:=FC vG u X;obtain⟨Z,fY⟩:=V i (ZC.mp F).1;exact⟨Z,e,l,by rw[Dl ev fY];exact F,N,L⟩
 cases jD:t1.plain with
 |false=>
  simp only[Zv,Z0];refine Za (Zc ?_);simp only[Yt];exact y t1 U vI
 |true=>
  simp only[Yt];obtain⟨ob,r,nn,k9,vE,wD,_⟩:=id hk;refine Za (Tx k9 vE wD (Qi _ _ _ k9 wD) λc=>?_);cases c with
  |true=>
   simp only[Yt];exact y t1 U vI
  |false=>
   simp only[Zv,Z0];exact y {t1 with plain:=false} (U.plain false) vI
theorem gv.at{h h':ao}{a:ae}{j:List (List K)}(S:gv knd h a j)(k:∀b o,h.get? b=some o->h'.get? b=some o\/b≠a/\¬∃c,IsTupleKey knd h c b):gv knd h' a j:=by
 obtain⟨o,P,Q,t,B,y,m,G,F,M,D,C,J,q⟩:=S.ex;have l:∀c b,IsTupleKey knd h c b->IsTupleKey knd h' c b:=λc b f=>by
  obtain⟨g,d,u,p,r⟩:=id f;rcases k b g p with z|z
  ·exact⟨g,d,u,z,r⟩
  ·exact absurd ⟨c,f⟩ z.2
 refine⟨o,P,Q,t,?_,y,m,G,F,M,D,C,λi e H=>?_,λc I=>?_⟩
 ·rcases k a o B with z|z
  ·exact z
  ·exact absurd rfl z.1
 ·obtain⟨b,c,O,v,f,x⟩:=J i e H;exact⟨b,c,O,v,l _ _ f,x⟩
 ·obtain⟨i,e,b,R,L,N⟩:=q c I;exact⟨i,e,b,R,L,l _ _ N⟩
end
section
variable{K:Type}[DecidableEq K]{knd:KeyKind prog w K}
variable{R:Result->af->Prop}{I:ae}{fp wr:List ae}{G:Array GenState->Array GenState->Prop}{n:Nat}{P:Nat->aa->Prop}{St:Nat->af->Prop}
def seen(val:Nat->List K):Nat->List (List K)
 |0=>[]
 |i+1=>if val i∈seen val i then seen val i else val i::seen val i
theorem seen_length(val:Nat->List K):∀i,(seen val i).length<=i
 |0=>Zg _
 |i+1=>by
  have:=seen_length val i;unfold seen;split
  ·lia
  ·rw[ZD];lia
theorem SH(val:Nat->List K):∀i j,j<i->val j∈seen val i
 |0,j,h=>absurd h (Yi _)
 |i+1,j,h=>by
  unfold seen;by_cases e:j=i
  ·subst e;split
   ·assumption
   ·exact Zw
  ·have:=SH val i j 'a';split
   ·exact this
   ·exact Zn _ this
theorem T6(val:Nat->List K):∀i c,c∈seen val i->∃j,j<i/\c=val j
 |0,c,h=>by cases h
 |i+1,c,h=>by
  unfold seen at h;have d:c∈seen val i->∃j,j<i+1/\c=val j:=λz=>let ⟨j,a,b⟩:=T6 val i c z;⟨j,by lia,b⟩;split at h
  ·exact d h
  ·rcases ZB.mp h with rfl|h
   ·exact⟨i,Yw _,rfl⟩
   ·exact d h
theorem kl(val:Nat->List K):∀i,(seen val i).length=i<->∀a b,a<b->b<i->val a≠val b
 |0=>⟨λ_ a b _ h=>absurd h (Yi _),λ_=>rfl⟩
 |i+1=>by
  have d:=kl val i;have l:=seen_length val i;unfold seen;by_cases h:val i∈seen val i
  ·rw[Zr h];refine⟨λe=>by lia,λe=>?_⟩;obtain⟨j,k,f⟩:=T6 val i _ h;exact absurd f.symm (e j i k (Yw _))
  ·rw[Zi h,ZD];refine⟨λe a b c hb=>?_,λe=>?_⟩
   ·by_cases g:b=i
    ·subst g;intro z;exact h (by rw[<- z];exact SH val b a c)
    ·exact d.mp 'a' a b c 'a'
   ·have:=d.mpr λa b c hb=>e a b c 'a';lia
theorem q18(W:WalksS prog w A.in1 I fp wr G n P St)(S:ae)(M:S∉fp)(val:Nat->List K)(hn:n<=1200)(O:A.in1.units<cLine)
  (Z:∀i s,St i s->S9 knd wr s.heap):
  ∀(k i:Nat)(s:af),n-i=k->i<=n->St i s->Dr knd S wr P val s.heap->gv knd s.heap S (seen val i) ->
   (∀a,Moved (S::wr) G s a->gv knd a.heap S (seen val n)->R (.ok (.ret .none)) a) ->
   codeAny (aj prog w) A (.builtin "set.update.loop" ⟨[.ref S,.ref I],[]⟩) R s:=by
 have Y:S∉wr:=λz=>M (W.sub _ z);have L:∀b∈wr,b∈S::wr:=λb hb=>Zn _ hb;have d:∀{i:Nat}{s a:af}{E:List (List K)},St i s->Moved wr G s a->gv knd s.heap S E->gv knd a.heap S E:=λ{i s a E} h g V=>V.at λb o e=>by
  by_cases hb:b∈wr
  ·exact .inr ⟨λz=>Y (by rw[<- z];exact hb),Z i s h b hb⟩
  ·exact .inl (g.heap b o hb e)
 intro k
 induction k with
 |zero=>
  intro i s X hi h p D q;have y:i=n:=by lia
  subst y;refine Xh YE ?_;rw[Wa ZZ _];show ag _ A.in1 (pyNext (.ref I) >>= _) _ _ s;refine Za (W.done s _ _ h λa g=>?_);show ag _ A.in1 (ret Value.none) _ _ a;exact Zc (q a (g.mono L) (d h g D))
 |succ k U=>
  intro i s X hi h p D q;have J:i<n:=by lia
  refine Xh YE ?_;rw[Wa ZZ _];show ag _ A.in1 (pyNext (.ref I) >>= _) _ _ s;refine Za (W.item i s _ _ J h λv a hP T g=>?_);obtain⟨b,rfl,hbS,yW,hb⟩:=p i v hP;have r:gu knd a.heap (val i) b:=hb.at λo e=>g.heap b o yW e;have N:gv knd a.heap S (seen val i):=d h g D;have ln:=seen_length val i;show ag _ A.in1 (holding [Value.ref b] (setAdd S (.ref b)) >>= _) _ _ a;refine Za (ZK ?_);unfold setAdd;refine ZK ?_;refine Za (wpAny_pyHash_tuple O r.key ?_);refine xm3 (s:={a with toks:=a.toks+((val i).length+1)}) O N r.key r.hb 'a' (λy=>?_) λpH Q x S2=>?_
  ·have f:Dr knd S wr P val a.heap:=λj u F=>by
    obtain⟨c,rfl,h1,h2,C⟩:=p j u F;exact⟨c,rfl,h1,h2,C.at λo e=>g.heap c o h2 e⟩
   refine Zc ⟨plainId_quiet ZZ _,U (i+1) _ 'a' J (W.frame _ a _ _ T (YQ _ _) λc m o e=>e) f ?_ λB H l=>?_⟩
   ·show gv knd a.heap S (if val i∈seen val i then seen val i else val i::seen val i);rw[Zr y];exact N
   ·exact q B (Moved.trans W.gtrans ((g.mono L).then_heap (YQ _ _) λc o m e=>e) H) l
  ·have f:Dr knd S wr P val Q:=λj u F=>by
    obtain⟨c,rfl,h1,h2,C⟩:=p j u F;exact⟨c,rfl,h1,h2,(C.at λo e=>g.heap c o h2 e).at λo e=>(x.2 c h1).trans e⟩
   refine Zc ⟨plainId_quiet ZZ _,U (i+1) _ 'a' J (W.frame _ a _ _ T (YQ _ _) λc m o e=>?_) f ?_ λB H l=>?_⟩
   ·rw[x.2 c (λz:c=S=>M (by rw[<- z];exact m))];exact e
   ·show gv knd Q S (if val i∈seen val i then seen val i else val i::seen val i);rw[Zi pH];exact S2
   ·refine q B (Moved.trans W.gtrans ((g.mono L).then_heap (YQ _ _) λc o m e=>?_) H) l;rw[x.2 c (λz:c=S=>m (by rw[z];exact Zw))];exact e
end
section
variable{K:Type}[DecidableEq K]{knd:KeyKind prog w K}{A:au}{E:aa->af->Prop}{s:af}
theorem q19{h:ao}{a:ae}{led:Bool}(e:h.get? a=some (dC led)):gv knd h a []:=
 ⟨_,#[],0,.fresh 0 0 led,e,⟨rfl,rfl,rfl⟩,rfl,⟨⟨(by rw[Yr];rfl),rfl,⟨3,rfl,by decide⟩,(by rw[Yr];exact ZU _)⟩,λi j c=>absurd c (Yi _),λi j x h=>by have:(#[]:Array Nat)[i]?=some j:=h;simp at this⟩,by rfl,(by show 7<=8*0+8;decide),rfl,XZ,λi e b=>by simp at b,λd h=>nomatch h⟩
theorem iC{l:ae}{items:Array aa}{val:Nat->List K}{Q:aa->af->Prop}(hh:A.handled=none)(hu:A.units+8<cLine)(hl:s.heap.IsTuple l items)
  (hi:∀(i:Nat)(v:aa),items[i]?=some v->∃b,v=.ref b/\gu knd s.heap (val i) b) (hb:items.size<=1200)
  (h:∀(d:ao)(q:Nat),gv knd d s.heap.objs.size (seen val items.size)->(∀b o,b<s.heap.objs.size->s.heap.get? b=some o->d.get? b=some o)->Q (.ref s.heap.objs.size) {s with heap:=d,toks:=q}):
  ag (aj prog w) A (call (.type "set") [.ref l]) Q E s:=by
 obtain⟨c,tl,O8⟩:=F.called_set.mro;have D9:=F.called_set.made;have Lk:=F.called_set.sub;refine Vo (codeAny_of_tree ?_);show ag _ _ (callAny (.type "set") _) _ _ _;refine Zc ⟨W6 _ (by decide +kernel),Xh F.entry_type_call ?_⟩;rw[Around.under_plain (weight_type_call_type "set" [.ref l] []) rfl];have f1:=F.called_set.notType;have f2:=F.called_set.canCreate;have f3:=F.typeCall_set_1 (.ref l)
 repeat (any_goals first|assumption|wp_step)
 refine Y7 (code_set_new_1 (.ref l) (E:=E) (Q₁:=λk N=>∃a:Bool,k=.ref s.heap.objs.size/\N={s with heap:=s.heap.push (dC a)}) λa=>⟨a,rfl,rfl⟩) λr N y=>?_;cases r with
 |error e=>exact y
 |ok fl=>
  cases fl with
  |ret k=>
   obtain⟨a,rfl,rfl⟩:=y;have H:(s.heap.push (dC a)).get? s.heap.objs.size=some (dC a):=Zh _ rfl;have hT:Shared.TypeIs {s with heap:=s.heap.push (dC a)} (.ref s.heap.objs.size) "set":=⟨_,H,rfl⟩;have i1:=F.called_set.init.lookup;have i2:=F.called_set.init.bind (.ref s.heap.objs.size)
   repeat (any_goals first|assumption|wp_step)
   refine Y7 (Wb (R:=wants (λr M=>r=.none/\∃d q,M={s with heap:=d,toks:=q}/\gv knd d s.heap.objs.size (seen val items.size) /\
     (∀b o,b<s.heap.objs.size->s.heap.get? b=some o->d.get? b=some o)) E) F.called_set.init.plain F.entry_set_init (check_set_init_1 hT ?_)) λxY M x=>?_
   ·obtain⟨ol,I,B,G,L⟩:=id hl;obtain⟨Nr,X,DC,U⟩:=ol;simp only at B L;subst B;subst L;have zw:(s.heap.push (dC a)).get? l=some {cls:=.type "tuple",dict:=X,data:=.seq items G,slots:=U}:=Zb _ I;have Ca:=F.sub_tuple_set;have l7:=F.sub_tuple_frozenset;have ned:(Value.type "tuple"== Value.type "dict")=false:=by decide
    have P:(s.heap.push (dC a)).IsTuple l items:=⟨_,zw,rfl,G,rfl⟩;unfold Builtin.«set.__init__» noKeywords Builtin.Frozenset.updateFrom;generalize W:pyIter=PI
    wp_walk
    subst W;refine YM P ?_;refine Za (wpAny_runValue ?_);have O:l<s.heap.objs.size:=Zl I;have f:(s.heap.push (dC a)).objs.size=s.heap.objs.size+1:=Yq _ _;have zD:l≠(s.heap.push (dC a)).objs.size:=by rw[f];exact Zz (Yy O)
    have Y:s.heap.objs.size∉[(s.heap.push (dC a)).objs.size,l]:=by
     rw[f];simp only[ZB,Xv,Vv,Vy];exact⟨Zz (Yw _),Xi O⟩
    refine q18 (knd:=knd) ((Walks.tuple (by simp[hh]) _ l zD items).toS) s.heap.objs.size Y val hb (by show A.units+1+1+1<cLine;lia) (λi C st b yW=>?_) (items.size-0) 0 _ 'a' (ZU _)
     ⟨⟨_,Zh _ rfl,rfl,rfl⟩,P.push _⟩ (λi v hv=>?_) (q19 (Zb _ H)) λC u g=>?_
    ·rintro⟨ks,S,D,n',m,p,e3,_⟩;have:b=(s.heap.push (dC a)).objs.size:=by simpa using yW
     subst this;obtain⟨oi,V,x2,x3⟩:=st.1;rw[V]at m;cases m;rw[x2]at p;injection p with p
     exact absurd p 'c'
    ·obtain⟨b,rfl,J⟩:=hi i v hv;have j:b<s.heap.objs.size:=by obtain⟨S,_,_,m,_⟩:=J;exact Zl m
     refine⟨b,rfl,Zz j,(by rw[f];simp only[ZB,Xv,Vv];exact Zz (Yy j)),J.at λo e=>Zb _ (Zb _ e)⟩
    ·obtain⟨d,g',d',K8,ji⟩:=C;have eg:g'=s.gens:=u.gens;have ed:d'=s.drawn:=u.drawn;have T:ji=s.os:=u.os;subst eg;subst ed;subst T;show ag _ _ _ _ _ _;refine Zc ?_;show ag _ _ (ret Value.none) _ _ _;refine Zc ⟨rfl,d,K8,rfl,g,λb o j e=>?_⟩;exact u.heap b o (by rw[f];simp only[ZB,Xv,Vv,Vy];exact⟨Zz j,Zz (Yy j)⟩) (Zb _ (Zb _ e))
   ·cases xY with
    |error e=>exact x
    |ok Z=>
     cases Z with
     |ret r=>
      obtain⟨rfl,d,q,rfl,g,kp⟩:=x
      repeat (any_goals first|assumption|wp_step)
      exact h _ _ g kp
     |_=>exact x.elim
  |_=>exact y.elim
end
end cY
namespace L2
open PySem PySem.Spec PyProof.Rows
section
variable{X:Cx}
inductive lS(xs:List V)(H:Hp)(Q:VK):Prop
 |mk(p:ae)(bs:List ae)(rows:List (List Key))(aM:xs=[.ref p])(dh:H p=some (.tup (bs.map V.ref)))(bH:bs.length=rows.length)(aF:(∀(i:Nat) b ks,bs[i]?=some b->rows[i]?=some ks->H b=some (.tup (ks.map kV))))(zX:rows.length<=1200)(By:∀r n,H r=none->n<=rows.length->(n=rows.length<->rows.Nodup)->Q (.ref r) (upd H r (.ext (nU r n))))
theorem q20(hc:X.calm=true){k:Nat}(W:aS k X.A):iO X (.type "set") lS:=by
 intro j4 s σ H xs us Q I T h;obtain⟨p,bs,rows,rfl,Y,A,S,y,q⟩:=h;obtain⟨u,rfl,ru⟩:=lG T;cases ru;obtain⟨_,d,O,Eg⟩:=I.aW p _ Y;have B:d.length=bs.length:=by have:=O.length;simpa using this.symm
 have un:=W.units;have item:∀(i:Nat)(v:aa),d[i]?=some v->∃b,bs[i]?=some b/\v=.ref b:=λi v l=>by
  have c:i<bs.length:=by rw[<- B];exact(cx l).1
  obtain⟨w',f,w⟩:=O.get (i:=i) (x:=V.ref bs[i]) (by simp[c]);rw[l]at f;cases f;exact⟨bs[i],by simp[c],w⟩
 refine cY.iC (knd:=gc X.prog X.w) (items:=d.toArray) (val:=λi=>rows.getD i []) (I.ok.hd hc) 'a' (show s.heap.IsTuple p d.toArray from Eg) (λi v l=>?_) (by rw[Zx,B,A];exact y) λh' tk C kp=>?_
 ·obtain⟨b,hb,rfl⟩:=item i v (by simpa using l);have c:i<rows.length:=by rw[<- A];exact(cx hb).1
  have e:rows.getD i []=rows[i]:=by simp[List.getD,c]
  show ∃M,Value.ref b=.ref M/\cY.gu _ s.heap (rows.getD i []) M;rw[e];exact⟨b,rfl,VS I.aW (S i b rows[i] hb (by simp[c]))⟩
 ·obtain⟨o,N,ep,t,F,U,P,G,hf,_,K,_⟩:=C.ex;have g:cY.cH t N.size:=by have:=G.gr;rw[Yr]at this;exact this
  have hz:d.toArray.size=rows.length:=by rw[Zx,B,A]
  rw[hz]at K;refine⟨.ref s.heap.objs.size,_,I.laid (a:=s.heap.objs.size) (o:=.ext (nU s.heap.objs.size (cY.seen (λi=>rows.getD i []) rows.length).length)) (t':=tk) (λb o e=>kp b o (Zl e) e) (Zg _) ⟨⟨o,N,ep,t,F,U,P,g.fits,K⟩,⟨o,F⟩,λh1 h2 φ k=>?_⟩,rfl,q _ _ (I.aW.fresh (Zg _)) (cY.seen_length _ _) ((cY.kl _ _).trans ?_)⟩
  ·obtain⟨J,D,Z,t',R,r⟩:=φ;exact⟨J,D,Z,t',k J R,r⟩
  ·constructor
   ·intro h;rw[List.nodup_iff_pairwise_ne,Vb];intro i j c m E z;refine h i j E m ?_;show rows.getD i []=rows.getD j [];simp[List.getD,c,m,z]
   ·intro h i j E m z;have c:i<rows.length:=by lia
    have L:rows.getD i []=rows.getD j []:=z;have f:rows.getD i []=rows[i]:=by simp[List.getD,c]
    have w:rows.getD j []=rows[j]:=by simp[List.getD,m]
    rw[f,w]at L;have:=(Vl h).mp L;lia
end
end L2
namespace Pr
open PySem L2 Qf
theorem iS{rows:List Row}:(rows.map aU).Nodup<->rows.Nodup:=by
 refine⟨λh=>?_,LJ⟩;rw[dr]at h ⊢;intro i j a b z;refine h i j a (by rw[Ze];exact b) ?_;rw[Zf,Zf,z]
section
variable{mg:aq->Option aa}{base:ao}
def LI:Sp:=λc H Q _=>∃(t:ae)(n a:Nat)(rows:List Row),c=[.ref t]/\cD H t n a rows/\n<=12/\cz rows/\rows.length<=900/\a<rows.length+2/\∀b,aC H b->Q (.bl (decide (dp rows a<=n))) b
theorem qT4{f c i l k:ae}{I u r b x:ai}(F:aP K "is_telling" "is_telling" vf f I)(B:d_ mg)
  (hS:mg "is_size"=some (.ref c)) (R:aP K "is_size" "is_size" yk c u) (O:Binds K u ["thing"] []) (GS:aB P w K mg base aJ 2 c u ["thing"] KQ)
  (hR:mg "are_rows"=some (.ref i)) (FR:aP K "are_rows" "are_rows" tS i r) (U:Binds K r ["thing"] []) (GR:aB P w K mg base aJ 4 i r ["thing"] KP)
  (N:mg "is_number"=some (.ref l)) (FN:aP K "is_number" "is_number" tL l b) (bN:Binds K b ["thing","many"] []) (GN:aB P w K mg base aJ 2 l b ["thing","many"] Hu)
  (W:mg "depths_of"=some (.ref k)) (G:aP K "depths_of" "depths_of" ym k x) (bD:Binds K x ["rows"] []):aB P w K mg base aJ 5 f I ["thing"] LI:=by
 have S:aB P w K mg base aJ 1 k x ["rows"] Im:=Mc G B;refine F.ok cf (λvs H Q E h=>?_) (λbp A m s H vs Q E g h=>?_)
 ·obtain⟨t,n,a,rows,rfl,_⟩:=h
  rfl
 ·obtain⟨t,n,a,rows,rfl,⟨p,d,j⟩,Y,ok,M,L,q⟩:=h;have Z:aS 1 _:=g.mono 'c';have C:aS 2 _:=g.mono 'c';refine⟨_,dG (c9 (jr (i_ (il (cQ nI 'd' B.m9 ZA (aD (pv 0) (aD (pT (v:=.ty "tuple") 'd' B.tuple ZE rfl) aH)))))
    (m7 (dI qH (cQ iq 'd' B.len ZF (aD (pv 0) aH)) aR (cP _)))).pt (cm (cj js)) c_)
   (dG (m6 (pv 0) (pR rfl (e_ (dj 1 cf.nd) (e_ (dj 2 cf.nd) (e_ (dj 3 cf.nd) oz)))))
   (dG (c9 (jr (i_ (il (bZ GS C hS R.kp O (aD (pv 1) aH))))
    (jr (i_ (il (bZ GR g hR FR.kp U (aD (pv 3) aH))))
    (m7 (i_ (il (bZ GN C N FN.kp bN (aD (pv 2) (aD (cQ iq 'd' B.len ZF (aD (pv 3) aH)) aH)))))))).pt (cm (cj js)) c_)
   (cm (cj (oy tV (cO jv (bZ S Z W G.kp bD (aD (pv 3) aH)) (pv 2)) (pv 1) (cP _)))))),?_⟩
  refine⟨_,rfl,_,_,_,_,true,rfl,rfl,.inl (.tup d),rfl,_,rfl,b_ ⟨_,rfl,t,_,rfl,.inr (aQ.of d),rfl,_,rfl,b_ ?_⟩⟩;refine⟨_,rfl,t,_,rfl,aQ.of d,rfl,_,_,rfl,_,_,rfl,_,_,rfl,rfl,?_⟩;refine⟨_,rfl,n,rfl,Y,_,rfl,b_ ⟨_,rfl,p,rows,rfl,j,ok,M,λH2 y=>⟨_,rfl,b_ ?_⟩⟩⟩;obtain⟨bs,X,T,jA⟩:=id j;refine⟨_,rfl,_,rfl,p,_,rfl,.inr (aQ.of (y _ _ X)),a,rows.length,by rw[Ze,T];rfl,L,_,rfl,b_ ?_⟩;refine⟨_,rfl,p,rows,rfl,j.same y,ok,M,λJ D s3 jZ=>?_⟩;refine⟨_,rfl,D,_,(a:Int),.int (dp rows a:Nat),rfl,rfl,bY.of jZ,sj (AW L),_,rfl,_,_,rfl,rfl,?_⟩;show Q (V.bl (decide ((dp rows a:Int)<=(n:Int)))) J;have e:decide ((dp rows a:Int)<=(n:Int))=decide (dp rows a<=n):=by
   by_cases z:dp rows a<=n
   ·rw[Zq z,Zq 'a']
   ·rw[Zy z,Zy 'a']
  rw[e];exact q J (y.trans s3)
def MD:Sp:=λc H Q _=>∃(t:ae)(n a:Nat)(rows:List Row),c=[.ref t]/\cD H t n a rows/\n<=12/\cz rows/\rows.length<=900/\a<rows.length+2/\∀(b:Bool) H',(b=true<->Canon n a rows)->aC H H'->Q (.bl b) H'
theorem xb3{f Y X fA:ae}{fd nP W nQ:ai}(F:aP K "is_shape" "is_shape" tG f fd)(B:d_ mg)(T:lh mg)
  (hT:mg "is_telling"=some (.ref Y)) (FT:aP K "is_telling" "is_telling" vf Y nP) (bT:Binds K nP ["thing"] []) (GT:aB P w K mg base aJ 5 Y nP ["thing"] LI)
  (hP:mg "is_plain"=some (.ref X)) (FP:aP K "is_plain" "is_plain" uW X W) (bP:Binds K W ["row"] [])
  (hA:mg "places_as_ended"=some (.ref fA)) (FA:aP K "places_as_ended" "places_as_ended" AD fA nQ) (bA:Binds K nQ ["rows","top"] []) (GA:∀d,aB P w K mg base aJ (d+2) fA nQ ["rows","top"] (CL d)):aB P w K mg base aJ 15 f fd ["thing"] MD:=by
 have GP:aB P w K mg base aJ 2 X W ["row"] IG:=MG FP T;refine F.ok di (λvs H Q E h=>?_) (λbp A outer s H vs Q E J h=>?_)
 ·obtain⟨t,n,k,rows,rfl,_⟩:=h
  rfl
 ·obtain⟨t,n,k,rows,rfl,mD,hn,ok,hl,U,q⟩:=h;obtain⟨p,ht,jG⟩:=id mD;obtain⟨bs,O,j7,jA⟩:=id jG;have kB:aS 2 _:=J.mono 'c';have yI:aS 5 _:=J.mono 'c';have OI:aS (n+2) _:=J.mono 'a';refine⟨_,dG (c9 (i_ (il (bZ GT yI hT FT.kp bT (aD (pv 0) aH)))) (cm (cj js)) c_)
   (dG (m6 (tO C_ (pv 0) (nF aR) pS) (pR rfl (e_ (dj 1 di.nd) (e_ (dj 2 di.nd) oz))))
   (dG (c9 (PW.pt (jr (il (cQ (UR rfl) 'd' B.any PyProof.Rows.boot_any (aD (oB ["thing","top","rows"] (cg tG) rfl rfl rfl di.nd (vt K rfl (pv 2)) (λcl C fp aG aK=>bZ GP kB hP FP.kp bP (aD (pv 0) aH))) aH)))
    (m7 (dI mi (cQ VJ 'd' B.len ZF (aD (hZ (q20 rfl J) 'd' B.set PyProof.Rows.boot_set (aD (pv 2) aH)) aH)) (cQ iq 'd' B.len ZF (aD (pv 2) aH)) (cP _))))) (cm (cj js)) c_)
   (cm (cj (oy (Iu J) (bZ (GA n) OI hA FA.kp bA (aD (pv 2) (aD (pv 1) aH)))
    (hZ (VD rfl) 'd' B.list Yu (aD (hZ Tw 'd' B.range PyProof.Rows.boot_range (aD (cQ iq 'd' B.len ZF (aD (pv 2) aH)) aH)) aH)) (cP _)))))),?_⟩
  refine⟨_,rfl,t,n,k,rows,rfl,mD,hn,ok,hl,U,λH1 s1=>?_⟩;have no:∀{L},¬Canon n k rows->aC H L->Q (.bl false) L:=λ{L} nc s'=>q false L ⟨λz=>(by cases z),λz=>(nc z).elim⟩ s';by_cases I:dp rows k<=n
  rotate_left
  ·rw[Zy I];exact⟨_,rfl,cB (no (λc=>I c.deep) s1)⟩
  rw[Zq I];refine⟨_,rfl,b_ ?_⟩;have kU:=s1 _ _ ht;refine⟨_,rfl,_,rfl,t,_,rfl,aQ.of kU,(λz=>absurd (show HT.cI 3 0 (some 1)=0 from z.1) 'c'),λu hu=>?_⟩;refine⟨u,_,rfl,aQ.of aX,rfl,_,_,rfl,_,_,rfl,rfl,?_⟩;have sA:aC H (upd H1 u (.tup [.int (k:Nat),.ref p])):=s1.trans (bF hu);refine(λ(go:∀H2,aC H H2->_)=>go _ sA) ?_;intro H2 s2;have jM:=s2 _ _ O;have v:(bs.map V.ref).length=rows.length:=by rw[Ze];exact j7
  refine⟨_,rfl,p,rfl,⟨_,aQ.of jM⟩,λD hD=>oG hD (λj z _=>∀r,rows[j]?=some r->z=.bl (decide (fJ r))) (pA (K:=K) jM) (by rw[v];exact oH 'a') (λ_ _ _ _ _ _ h=>h) ?_ ?_⟩
  ·intro j x H3 hj a s3 Q' hq;have yL:j<rows.length:=by rw[<- v];exact hj
   rw[Zf]at a;obtain⟨b,hb,rfl⟩:=Zp.mp a;have y:rows[j]?=some rows[j]:=by simp[yL]
   refine⟨_,rfl,b,rows[j],rfl,s3 _ _ (s2 _ _ (jA j b _ hb y)),(ok j _ y).1,λH4 G=>hq _ _ G λr N=>?_⟩;rw[y]at N;cases N
   rfl
  ·intro ys H3 s3 jZ jU jS;have e:ys=(rows.map λr=>decide (fJ r)).map V.bl:=by
    refine pz (by rw[jU,v];simp) λi x a=>?_;have hi:=(cx a).1;rw[jU,v]at hi;have y:rows[i]?=some rows[i]:=by simp[hi]
    rw[jS i x a _ y];simp[hi]
   have R:aC H H3:=s2.trans s3;refine⟨D,rows.map λr=>decide (fJ r),rfl,by rw[<- e];exact jZ,_,rfl,?_⟩;by_cases Z:∃r∈rows,fJ r
   ·have na:(rows.map λr=>decide (fJ r)).any id=true:=by
     obtain⟨r,h1,h2⟩:=Z;rw[Wd];exact⟨_,ZV.mpr ⟨r,h1,rfl⟩,Zq h2⟩
    rw[na];obtain⟨r,h1,h2⟩:=Z;exact cB (no (λc=>c.dF r h1 h2) R)
   have EC:∀r∈rows,¬fJ r:=λr h1 h2=>Z ⟨r,h1,h2⟩;have na:(rows.map λr=>decide (fJ r)).any id=false:=by
    rw[Wu];intro x a;obtain⟨r,h1,rfl⟩:=ZV.mp a;rw[Zy (EC r h1)];decide
   rw[na];refine b_ ?_;have jQ:=R _ _ O;refine⟨_,rfl,p,bs,rows.map aU,rfl,jQ,by rw[Ze];exact j7,λi b ks e1 e2=>?_,by rw[Ze];lia,λr m N wY wR=>?_⟩
   ·rw[Zf]at e2;obtain⟨r0,EB,rfl⟩:=Zp.mp e2;rw[sg];exact R _ _ (jA i b r0 e1 EB)
   ·rw[Ze]at wY wR;have G:aC H (upd H3 r (.ext (nU r m))):=R.trans (bF N);have vD:=G _ _ O;refine⟨r,_,rfl,aX,by lia,_,rfl,p,_,rfl,.inr (aQ.of vD),_,_,rfl,rfl,_,rfl,?_⟩;by_cases M:rows.Nodup
    rotate_left
    ·have S:decide ((m:Int)<((bs.map V.ref).length:Int))=true:=Zq (by
      have:m≠rows.length:=λz=>M (iS.mp (wR.mp z));rw[v];lia)
     rw[S];exact cB (no (λc=>M c.unlike) G)
    have S:decide ((m:Int)<((bs.map V.ref).length:Int))=false:=Zy (by
     have:=wR.mpr (LJ M);rw[v];lia)
    rw[S];refine b_ ?_;refine(λ(go:∀H5,aC H H5->_)=>go _ G) ?_;intro H5 s5;refine⟨_,rfl,_,rfl,p,k,rows,rfl,(jG.same s5).zs,ok,by lia,U,I,λH6 D6 s6 PX=>?_⟩;have vL:=s6 _ _ (s5 _ _ O);refine⟨_,rfl,p,_,rfl,.inr (aQ.of vL),_,rfl,λg hg=>⟨g,rows.length,rfl,by rw[aX,v],by lia,λl xb=>?_⟩⟩;have yV:=dZ (u:=.lst ((List.range rows.length).map λ(i:Nat)=>V.int (i:Int))) (dZ (u:=.tE 0 ((bs.map V.ref).length:Int)) PX hg) xb;rw[si]at yV;have e9:((List.range rows.length).map λ(i:Nat)=>V.int (i:Int))=((List.range rows.length).map λn:Nat=>(n:Int)).map V.int:=si _;refine⟨dL ((cu rows n [] k).map λn:Nat=>(n:Int)),dL ((List.range rows.length).map λn:Nat=>(n:Int)),.lst yV (aT.ints _),.lst aX (e9▸aT.ints _),Ir _,Ir _,?_,?_⟩
    ·exact ZN (T8 _) 'c'
    ·rw[R0];refine q _ _ ⟨λz=>⟨hn,ok,U,I,EC,M,IF (ZI z)⟩,λc=>Zq (by rw[c.ends])⟩ (s5.trans (s6.trans ((bF hg).trans (bF xb))))
theorem SG:aE ["shape"] ["shape"] (cg uU):=cZ
inductive qh(vs:List V)(H:Hp)(Q:VK):Prop
 |mk(t:ae)(n tp:Nat)(rows:List Row)(e0:vs=[.ref t])(e1:gO H t n tp rows)(e2:∀H',aC H H'->Q .cA H')
def Ma:Sp:=λa H Q _=>qh a H Q
theorem xm4{f a:ae}{e c:ai}(F:aP K "want_shape" "want_shape" uU f e)
  (u:mg "is_shape"=some (.ref a)) (i:aP K "is_shape" "is_shape" tG a c) (g:Binds K c ["thing"] []) (p:aB P w K mg base aJ 15 a c ["thing"] SJ):aB P w K mg base aJ 16 f e ["shape"] Ma:=by
 refine F.ok SG (λm H Q E h=>?_) (λv A b s H m Q E j h=>?_)
 ·obtain⟨t,n,d,rows,rfl,_⟩:=h
  rfl
 ·obtain⟨t,n,d,rows,rfl,r,q⟩:=h;refine⟨_,cm (c9 (i_ (il (bZ p j u i.kp g (aD (pv 0) aH)))) m8 c_),?_⟩;exact⟨_,rfl,t,n,d,rows,rfl,r,λk l=>⟨_,rfl,b_ (q k l)⟩⟩
end
end Pr
namespace L2
open PySem PySem.Spec PyProof.Rows
section
variable{κ:Type}[DecidableEq κ]{hk:HeapKind prog w κ}{A:au}{E:aa->af->Prop}{s:af}{d a:ae}{k:κ}{xs:List (κ×ae×aa)}
theorem qT6{y:aa}{Q:aa->af->Prop}(i:hk.room A)(m:hk.is s.heap k a)(dict:s.heap.DictOfH hk d xs)(D:xs.length<=sizeLine)
  (C:∀v,(atKey xs k).map (·.2)=some v->Q v {s with toks:=s.toks+hk.draws k})
  (new:(atKey xs k).map (·.2)=none->∀u,u.DictOfH hk d (storedH xs k a y)->Heap.SameBut d s.heap u->Q y {s with heap:=u,toks:=s.toks+hk.draws k}):
  ag (aj prog w) A (dictSetDefault d (.ref a) y) Q E s:=by
 obtain⟨ob,H,x,c,r,b,h,l,F⟩:=dict;show ag _ _ (holding [.ref a,y] _) _ _ _;refine ZK (Za (hk.pyHash i m (Za (wpAny_dictFind_heap (s:={s with toks:=s.toks+hk.draws k}) i m c b h l F (λf=>?_) (λj q g=>?_)))))
 ·have abs:=atKey_none_of_get f;refine Za (XX (Za (wpAny_updateDictKeys (hz:=by have:=size_of_entries h;lia) (s:={s with toks:=s.toks+hk.draws k}) c b (Zc (new (by rw[abs];rfl) _ ⟨_,_,x+1,
   YG _ c (Obj.isFreed_of_dict (Obj.data_mapDictKeys b _)),r.mapDictKeys _,Obj.data_mapDictKeys b _,?_,?_,?_⟩ (Yh ..))))))
  ·rw[storedH_new abs];simp[h,entryOfKey]
  ·rw[storedH_new abs];intro z hz;rcases Z8.mp hz with hz|hz
   ·exact hk.keeps (l z hz) c b (Yh ..)
   ·have:z=(k,a,y):=by simpa using hz
    subst this;exact hk.keeps m c b (Yh ..)
  ·rw[storedH_new abs,ZW,Yk];exact⟨F,by simp,λp G q I e=>not_mem_keys_of_get f (by
    have:q=k:=by simpa using I
    rw[<- this,<- e];exact G)⟩
 ·have B:=atKey_of_get F g;refine Za (XW (s:={s with toks:=s.toks+hk.draws k}) c b ?_);rw[entry_at h j,g];exact Za (XX (Zc (C q.2 (by rw[B];rfl))))
end
section
variable{X:Cx}
def xz8:V->List V->Hp->VK->Prop:=λx c H Q=>∃(d b:ae)(a:List (List Key×V))(k:List Key)(y:V),x=.ref d/\c=[.ref b,y]/\H d=some (.dT a)/\H b=some (.tup (k.map kV))/\a.length<sizeLine /\
 (∀v,br a k=some v->Q v H)/\(br a k=none->Q y (upd H d (.dT (putK a k y))))
theorem qJ4(P:X.A.units+1<cLine):Gh X "dict.setdefault" xz8:=by
 intro j4 s σ H x j v us Q I T K h;obtain⟨d,b,a,k,y,rfl,rfl,m,hb,hl,q1,q2⟩:=h;cases(show v=Value.ref d from T);obtain⟨l,f,rfl,r1,G⟩:∃l f,us=[l,f]/\RelV (.ref b) l/\RelV y f:=by
  cases K with
  |cons w p=>cases p with
   |cons a3 a4=>cases a4;exact⟨_,_,rfl,w,a3⟩
 cases(show l=Value.ref b from r1);obtain⟨z,C,j,g,E⟩:=Kf I.aW m;have hz:j.length<=sizeLine:=by rw[<- XH g];exact z
 have M:MeetsIn X.prog X.w (Builtin.«dict.setdefault» ⟨[.ref d,.ref b,f],[]⟩) (λA R s=>(tupleKind (gc X.prog X.w)).room A.in1/\(tupleKind (gc X.prog X.w)).is s.heap k b/\s.heap.DictOfH (tupleKind (gc X.prog X.w)) d j /\
   (∀v,(atKey j k).map (·.2)=some v->R (.ok (.ret v)) {s with toks:=s.toks+(tupleKind (gc X.prog X.w)).draws k}) /\
   ((atKey j k).map (·.2)=none->∀i,i.DictOfH (tupleKind (gc X.prog X.w)) d (storedH j k b f)->Heap.SameBut d s.heap i->R (.ok (.ret f)) {s with heap:=i,toks:=s.toks+(tupleKind (gc X.prog X.w)).draws k})):=
  .of_wp λA R s ⟨Y,W,D,g4,Z⟩=>by
   unfold Builtin.«dict.setdefault» Builtin.Dict.keyAndDefault;refine Za (Za (wpAny_notOrdered_dict D.typeIs (Zc ?_)));show ag _ _ (if(d==sysModules)=true then _ else(dictSetDefault d (.ref b) f >>= _)) _ _ s;rw[Zi (by rw[C];decide)];exact Za (qT6 Y W D hz (λv B=>Zc ⟨v,rfl,g4 v B⟩) λu i w p=>Zc ⟨f,rfl,Z u i w p⟩)
 have val:=g.val k;refine call_meetsIn WW E.typeIs PySem.F.entry_dict_setdefault (PySem.F.args_dict_setdefault_3 _ _ _) M ⟨Xy P,yx I.aW hb,E,λv B=>?_,λu i O N=>?_⟩
 ·rw[B]at val;cases e:br a k with
  |none=>rw[e]at val;exact val.elim
  |some r=>rw[e]at val;exact⟨r,H,I.tok _,val,q1 r e⟩
 ·rw[u]at val;cases e:br a k with
  |some r=>rw[e]at val;exact val.elim
  |none=>
   have V:(putK a k y).length<=sizeLine:=by have:=CW a k y;lia
   obtain⟨q,es,ep,F,h2,S,L,_,U⟩:=O;refine⟨y,_,?_,G,q2 e⟩;refine AG I (by rw[m];exact True.intro) N ⟨q,F⟩ ⟨V,C,_,(g.put k hb G).keeps λc ys J=>?_,q,es,ep,F,h2,S,L,U⟩;rw[bo (Dw J m (λz=>nomatch z))];exact J
end
def Ik(acc:List (List Key×V))(more:List (List Key×ae×V)):List (List Key×V):=more.foldl (λacc x=>putK acc x.1 x.2.2) acc
section
variable{X:Cx}
theorem UJ{m:List (ae×aw)}{σ:St}{d:ae}(u:X.A.units<cLine){E:aa->af->Prop}:∀(more:List (List Key×ae×V))(r:List (aa×aa))(f:List (List Key×V))(H:Hp)(s:af)(Q:PUnit->af->Prop),
  Inv X m σ H s->H d=some (.dT f)->VV (more.map λx=>(V.ref x.2.1,x.2.2)) r->(∀x∈more,H x.2.1=some (.tup (x.1.map kV)))->f.length+more.length<=1000 ->
  (∀k,Inv X m σ (upd H d (.dT (Ik f more))) k->Q PUnit.unit k)->ag (aj X.prog X.w) X.A (storeAll d r) Q E s
 |[],_,f,H,s,Q,I,g,i,_,_,q=>by
  rw[Vp]at i;cases i;have e:upd H d (.dT (Ik f []))=H:=by
   funext b;unfold upd;split
   ·rename_i z;rw[z,g];rfl
   ·rfl
  rw[e]at q;exact Zc (q s I)
 |x::more,_,f,H,s,Q,I,g,i,p,Y,q=>by
  rw[ZL]at i;cases i with
  |@cons a b as bs h t=>
   obtain⟨D,K⟩:=b;cases(show D=Value.ref x.2.1 from h.1);obtain⟨z,C,S,j,T⟩:=Kf I.aW g;have l:S.length<=sizeLine:=by rw[<- XH j];exact z
   have v:=p x Zw;rw[ZD]at Y;have P:=CW f x.1 x.2.2;have R:(putK f x.1 x.2.2).length<=sizeLine:=Ys (oH 'a');show ag _ _ (forIn ((Value.ref x.2.1,K)::bs) _ _) _ _ _;rw[Y3];refine Za (Za (wpAny_dictSet_heap (hsz:=l) (knd:=tupleKind (gc X.prog X.w)) u (yx I.aW v) T λN L J=>Zc ?_));obtain⟨q0,U,W,A,h2,M,G,_,O⟩:=L;have F:Inv X m σ (upd H d (.dT (putK f x.1 x.2.2))) {s with heap:=N,toks:=s.toks+(tupleKind (gc X.prog X.w)).draws x.1}:=by
    refine AG I (by rw[g];exact True.intro) J ⟨q0,A⟩ ⟨R,C,_,(j.put x.1 v h.2).keeps λc ys B=>?_,q0,U,W,A,h2,M,G,O⟩;rw[bo (Dw B g (λz=>nomatch z))];exact B
   refine UJ u more bs _ _ _ Q F aX t (λy Z=>?_) 'a' λk w=>q k ?_
   ·have:=p y (Zn _ Z);rw[bo (Dw this g (λz=>nomatch z))];exact this
   ·rw[xv9]at w;exact w
def KN(b:List (TE×TE)):TE:=λc H Q=>∀p,H p=none->Iw b c (upd H p (.dT [])) λd a=>a p=some (.dT [])/\∃more:List (List Key×ae×V),d=more.map (λx=>(V.ref x.2.1,x.2.2)) /\
 (∀x∈more,a x.2.1=some (.tup (x.1.map kV)))/\more.length<=15/\Q (.ref p) (upd a p (.dT (Ik [] more)))
theorem xm5{b:aA}{keys:List (Option ar)}{a:List ar}{d:List (TE×TE)}(m:X.A.units<cLine)(h:BF X b keys a d)(u:keys.all (·.isSome)=true)(y:keys.length=a.length)(h0:keys≠[])
  (v:keys.length<=15):PE X (.Dict keys a b) (KN d):=by
 intro g s f H Q I q;have l:=I.aW.fresh (Zg s.heap.objs.size);have p:Inv X g f (upd H s.heap.objs.size (.dT [])) {s with heap:=s.heap.push {cls:=.type "dict",data:=.dict #[]},toks:=s.toks}:=I.laid (λ_ _ q=>Zb _ q) (Zg _) (Ul s.heap I.big);refine wpAny_Dict_any u y h0 v (bC (h g _ f _ _ p (q _ l)) λk A ⟨E,x,j,c,e,more,w,i,C,B⟩=>?_);subst w;exact UJ m more k [] x A _ j e c i (by rw[Vt];lia) λD r=>⟨.ref s.heap.objs.size,_,r,rfl,B⟩
def xz9:V->List V->Hp->VK->Prop:=λx b H Q=>∃(d e:ae)(a more:List (Key×V)),x=.ref d/\b=[.ref e]/\d≠e/\H d=some (.dK a)/\H e=some (.dK more)/\a.length+more.length<=1191000/\Q .cA (upd H d (.dK (pO a more)))
theorem xb6:Gh X "dict.update" xz9:=by
 intro O s M H x P v R Q I B p h;obtain⟨d,e,b,more,rfl,rfl,K,g,C,L,q⟩:=h;cases(show v=Value.ref d from B);obtain⟨u,rfl,D⟩:=lG p;cases(show u=Value.ref e from D);obtain⟨z,l,G,a,k⟩:=A_ I.aW g;obtain⟨N,f,c,j,J⟩:=A_ I.aW C;have r:=a.length;have E:=j.length;refine call_meetsIn PySem.F.slot_dict_update k.typeIs PySem.F.entry_dict_update (PySem.F.args_dict_update_2 _ _) (meets_dict_update (gc X.prog X.w) d e K f) ⟨G,c,k,J,by rw[<- r,<- E];exact Ys (YX L (by decide:1191000<sizeLine)),λA i S w=>?_⟩;have F:(pO b more).length<=sizeLine:=by
  have:=LU more b;exact Ys (YX (m:=1191000) 'a' 'c')
 have y:∃q,A.get? d=some q:=let ⟨q,_,_,hq,_⟩:=i;⟨q,hq⟩;exact⟨.cA,_,AG (t':=s.toks) I (by rw[g];exact True.intro) w y (M4 F l (j.merge a) i),rfl,q⟩
def Q5(d:ae)(kvs:List (Key×V))(o:aw):It:=
 ⟨λi H=>H d=some (.ic o (.dK kvs))/\i<kvs.length,λi H x b=>b=H/\∃a,kvs[i]?=some a/\x=kV a.1,λi H=>H d=some (.ic o (.dK kvs))/\kvs.length<=i⟩
theorem RU{P:ah}{w:ak}{H:Hp}{h:ao}{d:ae}{kvs:List (Key×V)}{o:aw}{es:Array DictEntry}{ep:Nat}(ok:eV P w H h)(e:H d=some (.ic o (.dK kvs)))(i:o.data=.dict es ep):
  kvs.length<=sizeLine/\(d==sysModules)=false/\∃a,KV kvs a/\h.DictAt (gc P w) d a ep:=by
 obtain⟨c,z,j,a,b,m,p,l,f,k,g,r⟩:=ok d _ e;rw[c]at f;cases f;rw[i]at g;cases g;exact⟨z,j,a,b,o,es,c,k,i,r⟩
theorem xb7{P:ah}{w:ak}{K:PySem.W.Frag}{tg:ar}{d it:ae}{kvs:List (Key×V)}{o:aw}{es:Array DictEntry}{ep:Nat}(O:o.data=.dict es ep):
  Turn P w K tg (Q5 d kvs o) [it] it (λi h=>h.IsKeyIter it d i kvs.length ep) where
 mem:=by simp
 obj:=λi h a b hb=>by
  have e:b=it:=by simpa using hb
  subst e;obtain⟨q,e,c,f⟩:=a;exact⟨q,e,λv z=>by rw[f]at z;cases z⟩
 keep:=λi h m a k=>a.at λo e=>k it 'b' o e
 item:=by
  intro X D J x T i R s M H E I p a A;subst D J x;obtain⟨u,l⟩:=A;obtain⟨z,U,g,j,G⟩:=RU I.aW u O;have r:=j.length;obtain⟨L,y,f2,C,B,F⟩:=p it 'b';have hx:g[i]?=some (g[i]'(by lia)):=by simp[show i<g.length by lia]
  rw[r]at a;refine wpAny_pyNext_dict_item (k:=(g[i]'(by lia)).1) (v:=(g[i]'(by lia)).2) a G hx λkey m W S Z=>?_;have I1:Inv X R M H {s with heap:=m}:=I.turned (t':=s.toks) (λb q hb e=>(Z.2 b hb).trans e) L y C B F;obtain⟨q,e,c,f⟩:=id S;have Y:(kvs[i]'l).1=(g[i]'(by lia)).1:=by
   have N:(kvs.map (·.1))[i]?=some (kvs[i]'l).1:=by simp[l]
   rw[j.keys]at N;have Q:(g.map (·.1))[i]?=some (g[i]'(by lia)).1:=by simp[show i<g.length by lia]
   rw[N]at Q;exact Zu Q
  refine⟨key,rfl,G9 (s:={s with heap:=m}) e c f 'c' ⟨kV (kvs[i]'l).1,H,I1,?_,⟨rfl,kvs[i]'l,by simp[l],rfl⟩,r▸S,λb hb=>(p b hb).1⟩⟩;rw[Y];exact S8 W
 done:=by
  intro X D J x T i R s M H E I p a A;subst D J x;obtain⟨u,l⟩:=A;obtain⟨z,U,g,j,G⟩:=RU I.aW u O;have r:=j.length;obtain⟨L,y,f2,C,B,F⟩:=p it 'b';rw[r]at a;exact wpAny_pyNext_dict_end (I.ok.hd T) a G (by simp;lia) λm eb=>⟨rfl,I.turned (t':=s.toks) (λb q hb e=>eb b q hb e) L y C B F⟩
 self:=λ_ _ _ _ _ a h=>wpAny_pyIter_keyiter a h
def xO4(e:TE):TI:=λc H R=>e c H λx b=>∃(d:ae)(a:List (Key×V)),x=.ref d/\b d=some (.dK a)/\∀o,R (Q5 d a o) (upd b d (.ic o (.dK a)))
theorem xA0{C l:ar}{y:TE}(F:PE X l y):PI X C l (xO4 y):=by
 intro p s m H R I h;refine bC (F p s m H _ I h) λv a ⟨x,D,A,E,d,i,ex,j,q⟩=>?_;subst ex;cases E;obtain⟨z,k,w,f,o,B,ep,c,r⟩:=A_ A.aW j;have g:Inv X p m (upd D d (.ic o (.dK i))) {a with heap:=a.heap,toks:=a.toks}:=
  A.write (x:=d) (e:=d) (by rw[j];exact True.intro) (.inl rfl) (λb u hb e=>e) ⟨o,c⟩ ⟨c,z,k,w,f,o,B,ep,c,r⟩
 refine wpAny_pyIter_dict (knd:=gc X.prog X.w) k (show a.heap.DictAt (gc X.prog X.w) d w ep from⟨o,B,c,r⟩) ?_;have G:d<a.heap.objs.size:=Zl c;refine⟨a.heap.objs.size,[a.heap.objs.size],_,_,_,rfl,g.kept (t':=a.toks) λb q e=>Zb _ e,xb7 (o:=o) (ep:=ep) r.2.1,⟨_,Zh _ rfl,rfl,by rw[f.length];rfl⟩,λb hb=>?_,q o⟩;have e:b=a.heap.objs.size:=by simpa using hb
 subst e;exact g.lP (Zg _) (g.aW.fresh (Zg _))
theorem xb8{H:Hp}{d:ae}{kvs:List (Key×V)}{o:aw}(a:H d=some (.ic o (.dK kvs))):Goes (Q5 d kvs o) H kvs.length (λi y _=>∃b,kvs[i]?=some b/\y=kV b.1) where
 go:=λi f c s=>⟨s _ _ a,c⟩
 yl:=λi f y g c s h=>by
  obtain⟨e,h⟩:=h;subst e;exact⟨aC.refl _,h⟩
 st:=λf s=>⟨s _ _ a,Zg _⟩
end
end L2
namespace L2
open PySem PySem.Spec PyProof.Rows PySem.W
def g6(h:ao)(d:ae)(tab:Array DictEntry)(ep:Nat):Prop:=∃o,h.get? d=some o/\o.ExactDict/\o.data=.dict tab ep
theorem g6.fM{h h':ao}{d:ae}{tab:Array DictEntry}{ep:Nat}(x:g6 h d tab ep)(k:∀o,h.get? d=some o->h'.get? d=some o):g6 h' d tab ep:=let ⟨o,ho,r⟩:=x;⟨o,k o ho,r⟩
theorem g6.ty{s:af}{d:ae}{tab:Array DictEntry}{ep:Nat}(x:g6 s.heap d tab ep):s.TypeIs (.ref d) "dict":=let ⟨o,ho,hc,_⟩:=x;⟨o,ho,hc.1⟩
theorem g6.lt{h:ao}{d:ae}{tab:Array DictEntry}{ep:Nat}(x:g6 h d tab ep):d<h.objs.size:=let ⟨_,ho,_⟩:=x;Zl ho
section
variable{d it:ae}{tab:Array DictEntry}{ep i:Nat}
theorem xb9{Q:aa->af->Prop}(lo:(d==sysModules)=false)(x:g6 s.heap d tab ep)
  (q:Q (.ref s.heap.objs.size) {s with heap:=s.heap.push {cls:=.type "dict_keyiterator",data:=.fields #[.ref d,.int 0 0,.int tab.size 0,.int ep 0]}}):ag (aj prog w) A (pyIter (.ref d)) Q E s:=by
 obtain⟨o,b,c,a⟩:=id x;refine wpAny_pyIter_slot x.ty F.slot_dict_iter (Z7 F.slot_dict_iter x.ty F.entry_dict_iter ?_ (F.args_dict_iter_1 _));show ag _ _ (Builtin.Dict.dictSlotNone _ _ >>= _) _ _ _;unfold Builtin.Dict.dictSlotNone;refine Za (Za (wpAny_notOrdered_dict x.ty (Zc ?_)));show ag _ _ (Builtin.Dict.showsAll d >>= _) _ _ s;unfold Builtin.Dict.showsAll;rw[Zi (by rw[lo];decide)];refine Za (Zc (Za (XW b a (Za (wpAny_dictEpoch b a ?_)))));refine Za (ZO (Zc ⟨_,rfl,"dict_keyiterator",_,⟨_,Zh _ rfl,rfl⟩,YL.lookup,?_⟩));simpa[rawInt]using q
theorem xc2{Q:Option aa->af->Prop}(st:s.heap.IsKeyIter it d i tab.size ep)(x:g6 s.heap d tab ep)(h:i<tab.size)
  (q:∀c,c.IsKeyIter it d (i+1) tab.size ep->Heap.SameBut it s.heap c->Q (some tab[i].key) {s with heap:=c}):ag (aj prog w) A (pyNext (.ref it)) Q E s:=by
 obtain⟨o,b,j,a⟩:=id st;obtain⟨k,g,l,f⟩:=id x;unfold pyNext;refine Za (XJ (ZS (name:=Str.ofString "__next__") st.typeIs YL (Z7 YL st.typeIs F.entry_dict_keyiterator_next ?_ (F.args_dict_keyiterator_next_1 _))));refine Za (Zc (Za (Za ?_)))
 first|(refine Za (Y1 st.typeIs (Zc (Za (W9 b a ?_)))))|(refine Za (Xp st.typeIs (Zc (Za (W9 b a ?_)))))
 simp only[show Builtin.Dict_items.ownsTuple "dict_keyiterator"=false by decide,Zv,Z0];show ag _ _ (if(Value.ref d==Value.none)=true then _ else _) _ _ s;rw[Zi (show ¬((Value.ref d==Value.none)=true) by exact ZG)];refine Za (Zc (Za (XW g f ?_)));rw[Zi 'b'];refine Za (Zc (Za (wpAny_dictEpoch g f ?_)));rw[Zi 'b'];refine Zc ?_;simp only[show ¬((i:Int)<0) by lia,Z0,YU,ZR h];refine Za ?_
 first|(refine Za (Y1 st.typeIs (Zc (Za (WI st.typeIs ?_)))))|(refine Za (Xp st.typeIs (Zc (Za (WI st.typeIs ?_)))))
 show ag _ _ (setField (.ref it) 1 (rawInt ((i:Int)+1)) >>= _) _ _ s;refine Za (Xw b a 'b' ?_);have e:(s.heap.update it (Obj.mapFields (·.setIfInBounds 1 (rawInt ((i:Int)+1))))).IsKeyIter it d (i+1) tab.size ep:=⟨_,YG _ b (XO (YN a _)),(Vf ..).trans j,by rw[YN a];simp[rawInt]⟩;refine Za (ZK (Za (WI (s:={s with heap:=s.heap.update it (Obj.mapFields (·.setIfInBounds 1 (rawInt ((i:Int)+1))))}) e.typeIs ?_)));show ag _ _ (pure tab[i].key) _ _ _;exact Zc (Zc ⟨_,rfl,Zc (q _ e (Yh ..))⟩)
theorem xm6{Q:Option aa->af->Prop}(j:A.handled=none)(st:s.heap.IsKeyIter it d tab.size tab.size ep)(x:g6 s.heap d tab ep)
  (q:∀h,Heap.ExtBut it s.heap h->Q none {s with heap:=h}):ag (aj prog w) A (pyNext (.ref it)) Q E s:=by
 obtain⟨o,e,p,c⟩:=id st;obtain⟨k,g,l,f⟩:=id x;unfold pyNext;refine Za (XJ (ZS (name:=Str.ofString "__next__") st.typeIs YL (Z7 YL st.typeIs F.entry_dict_keyiterator_next ?_ (F.args_dict_keyiterator_next_1 _))));refine Za (Zc (Za (Za ?_)))
 first|(refine Za (Y1 st.typeIs (Zc (Za (W9 e c ?_)))))|(refine Za (Xp st.typeIs (Zc (Za (W9 e c ?_)))))
 simp only[show Builtin.Dict_items.ownsTuple "dict_keyiterator"=false by decide,Zv,Z0];show ag _ _ (if(Value.ref d==Value.none)=true then _ else _) _ _ s;rw[Zi (show ¬((Value.ref d==Value.none)=true) by exact ZG)];refine Za (Zc (Za (XW g f ?_)));rw[Zi 'b'];refine Za (Zc (Za (wpAny_dictEpoch g f ?_)));rw[Zi 'b'];refine Zc ?_;simp only[show ¬((tab.size:Int)<0) by lia,Z0,YU,XB (Zg tab.size)];refine Za ?_
 first|(refine Za (Y1 st.typeIs (Zc ?_)))|(refine Za (Xp st.typeIs (Zc ?_)))
 show ag _ _ (setField (.ref it) 0 .none >>= _) _ _ s;refine Za (Xw e c 'b' ?_);show ag _ _ (newExc (.type "StopIteration") [] >>= _) _ _ _;refine Za ?_;simp only[newExc,newTuple];refine Za (ZO ?_ (by size_fits));refine Za (m:=firstArgMember _ _) (wpAny_of_eq (a:=Value.none) (by first|rfl|(simp only[firstArgMember];rfl)) (ZO ?_ (by size_fits)));simp only[raiseNew];refine Za (wpAny_handled ?_);rw[show A.in1.handled=none by exact j];refine Za (Zc (wpAny_throw ?_));refine Za (wpAny_isInstance (T:= "StopIteration") (b:=true) ⟨_,Zh _ rfl,rfl⟩ isSubtype_stop ?_);exact Zc (q _ (((Yh ..).extBut.push _).push _))
theorem q21(j:A.handled=none)(p:d≠it):Walks prog w A it [it,d] [it] tab.size (λi v=>∃e,tab[i]?=some e/\v=e.key) (λi h=>h.IsKeyIter it d i tab.size ep/\g6 h d tab ep) where
 sub:=λb hb=>by simp at hb;simp[hb]
 frame:=λ_ _ _ a k=>⟨a.1.at λo e=>k it 'b' o e,a.2.fM λo e=>k d 'b' o e⟩
 item:=λi s Q E f a q=>xc2 a.1 a.2 f λc l g=>q _ c s.toks ⟨tab[i],by simp[f],rfl⟩ ⟨l,a.2.fM λo e=>g.extBut d o p e⟩ λb o hb e=>g.extBut b o (λh=>hb (by simp[h])) e
 done:=λs Q E a q=>xm6 j a.1 a.2 λc m=>q c s.toks λb o hb e=>m b o (λh=>hb (by simp[h])) e
 self:=λ_ _ _ _ a q=>wpAny_pyIter_keyiter a.1 q
theorem xm7(lo:(d==sysModules)=false):KdlSrc prog w "dict" d d tab.size (λi v=>∃e,tab[i]?=some e/\v=e.key) (λh=>g6 h d tab ep) where
 type:=λ_ x=>x.ty
 there:=λ_ x=>⟨x.lt,x.lt⟩
 keep:=λ_ _ x k=>x.fM λo e=>k d (.inl rfl) o e
 notList:=by decide
 notTuple:=by decide
 hint:=λ_ _ _ _ x q=>kdl_hint_dict x.ty q
 iter:=λ_ _ a x=>⟨_,_,(λ_ _ q=>xb9 lo x q),q21 a (Zz x.lt),⟨⟨_,Zh _ rfl,rfl,rfl⟩,x.fM λo e=>Zb _ e⟩⟩
theorem xc3(lo:(d==sysModules)=false):MeetsIn prog w (Builtin.«dict.__len__» ⟨[.ref d],[]⟩) (λ_ R s=>∃tab ep,g6 s.heap d tab ep/\R (.ok (.ret (.int tab.size s.toks))) {s with toks:=s.toks+1}):=
 .of_wp λA R s ⟨tab,ep,⟨o,a,c,b⟩,q⟩=>by
  show ag _ _ (dictSize d >>= _) _ _ s;unfold dictSize;refine Za (Za (XW a b (Zc ?_)));show ag _ _ (Builtin.Dict.pendingCount d >>= _) _ _ s;exact Za (wpAny_pendingCount_other lo (wpAny_ret_mkInt (by rw[Nat.add_zero];exact q)))
theorem xm8{Q:aa->af->Prop}(lo:(d==sysModules)=false)(x:g6 s.heap d tab ep)(a:(tab.size:Int)<2^63)(q:Q (.int tab.size (s.toks+1)) {s with toks:=s.toks+1+1}):
  ag (aj prog w) A (call (.builtin "len") [.ref d]) Q E s:=by
 refine Calls.call_function_entry kind_len plain_len entry_len (args_len1 _) ?_;unfold Builtin.«len»;refine Za (m:=oneArg "len" _) (Zc ?_);refine Za (m:=callSpecial? (.ref d) (Str.ofString "__len__")) (ZS (name:=Str.ofString "__len__") x.ty F.slot_dict_len (call_meetsIn F.slot_dict_len x.ty F.entry_dict_len (F.args_dict_len_1 _) (xc3 lo) ⟨tab,ep,x,?_⟩));show ag _ _ _ _ _ {s with toks:=s.toks+1};refine Za (ZK (Zc (Za (wpAny_letGo ?_))));show ag _ _ (if((tab.size:Nat):Int)<0 then _ else _) _ _ _;rw[Zi 'a'];show ag _ _ (if((tab.size:Nat):Int)>=2^63 then _ else _) _ _ _;rw[Zi 'a'];exact Za (wpAny_mkInt (Zc ⟨_,rfl,q⟩))
end
section
variable{X:Cx}
theorem q22(hc:X.calm=true):iO X (.type "list") (λK H Q=>∃(d:ae)(f:List (List Key×V)),K=[.ref d]/\H d=some (.dT f) /\
  ∀(l:ae)(bs:List ae),H l=none->bs.length=f.length->(∀(i:Nat) b w,bs[i]?=some b->f[i]?=some w->H b=some (.tup (w.1.map kV)))->Q (.ref l) (upd H l (.lst (bs.map V.ref)))):=by
 intro j4 s σ H K us Q I r h;obtain⟨d,f,rfl,L,q⟩:=h;obtain⟨u,rfl,T⟩:=lG r;cases T;obtain⟨z,M,g,k,o,tab,ep,P,W,R,j,BO⟩:=(show bV X.prog X.w H s.heap d (.dT f)from I.aW d _ L);have Y:f.length=g.length:=XH k;have ht:tab.size=g.length:=size_of_entries j;refine kdl_call (xm7 (tab:=tab) (ep:=ep) M) (I.ok.hd hc) ⟨o,P,W,R⟩ 'a' λh' tk A c kp U E=>?_;have C:∀(i:Nat) p y,f[i]?=some p->g[i]?=some y->H y.2.1=some (.tup (p.1.map kV)):=by
  have B:∀{l:List (List Key×V)}{m:List (List Key×ae×aa)},Paired (λ(p:List Key×V) (q:List Key×ae×aa)=>p.1=q.1/\H q.2.1=some (.tup (p.1.map kV))/\RelV p.2 q.2.2) l m->∀(i:Nat) p y,l[i]?=some p->m[i]?=some y->H y.2.1=some (.tup (p.1.map kV)):=by
   intro l m O
   induction O with
   |nil=>intro i p y h1;simp at h1
   |cons S a2 Z=>
    intro i p y h1 h2;cases i with
    |zero=>simp at h1 h2;subst h1;subst h2;exact S.2.1
    |succ i=>exact Z i p y (by simpa using h1) (by simpa using h2)
  exact B k
 have G:(g.map (·.2.1)).length=f.length:=by rw[Ze,Y]
 refine⟨.ref s.heap.objs.size,_,I.laid (a:=s.heap.objs.size) (o:=.lst ((g.map (·.2.1)).map V.ref)) (t':=tk) kp (Zg _) ⟨by rw[Ze,G];exact z,A.toList,c,?_,by simpa using U⟩,rfl,q _ _ I.fresh G λi b w J N=>?_⟩
 ·refine IM (by simp[E.1,ht]) λi x v h1 h2=>?_;rw[Zf,Zf]at h1;obtain⟨b,hb,rfl⟩:=Zp.mp h1;obtain⟨y,D,rfl⟩:=Zp.mp hb;obtain⟨e,F,rfl⟩:=E.2 i v (by simpa using h2);rw[entry_at j i,D]at F;have:=Zu F;subst this
  rfl
 ·rw[Zf]at J;obtain⟨y,D,rfl⟩:=Zp.mp J;exact C i w y N D
inductive mP(xs:List V)(H:Hp)(Q:VK):Prop
 |mk(d:_)(kvs:_)(aM:xs=[V.ref d])(dh:H d=some (.dT kvs))(bH:Q (.int kvs.length) H)
theorem UI:iO X (.builtin "len") mP:=by
 intro x s v H y B Q I r h;obtain⟨d,a,rfl,i,q⟩:=h;obtain⟨u,rfl,m⟩:=lG r;cases m;obtain⟨z,j,w,e,o,b,A,k,p,l,c,C⟩:=(show bV X.prog X.w H s.heap d (.dT a)from I.aW d _ i);have g:b.size=a.length:=(size_of_entries c).trans (XH e).symm;have f:(b.size:Int)<2^63:=by rw[g];rw[YV]at z;lia
 refine xm8 j ⟨o,k,p,l⟩ f ⟨.int a.length,H,I.tok _,?_,q⟩;rw[g];exact⟨_,rfl⟩
end
end L2
namespace L2
open PySem
theorem T5{c:Type}{d e:BEq c}(h1:@LawfulBEq c d)(h2:@LawfulBEq c e):d=e:=by
 have:∀a b,@BEq.beq c d a b=@BEq.beq c e a b:=λa b=>by
  rw[Y2,@XY c d h1,@XY c e h2]
 cases d;cases e;congr 1;funext a b;exact this a b
theorem q23{J:It}{H:Hp}{n:Nat}{item:Nat->V->Hp->Prop}{te:TE}{σ:St}{Fin:Hp->Prop}{D:ae}(C:H D=none)(d:Nat->V->Hp->Prop)(G:Goes J H n item)(hsz:n<sizeLine)
  (mono:∀i y s a,i<n->dW s a->d i y s->d i y a)
  (step:∀i x a,i<n->item i x a->aC H a->∀u:VK,(∀y f,aC a f->d i y f->u y f)->te (some x::σ) a u)
  (l:∀k a,aC H a->a D=some (.lst k)->k.length=n->(∀i y,k[i]?=some y->d i y a)->Fin a):
  ∃W:Nat->Nat->List V->Hp->Prop,(∃m,W 0 m [] (upd H D (.lst []))) /\
   ∀i m c a,W i m c a->a D=some (.lst c)/\c.length<sizeLine/\((J.stop i a/\Fin a)\/(J.go i a/\∀y f,J.mV i a y f->∀p:St,p.length=1 ->
    eZ 0 y (p++σ) f λr I=>yp r I λb q=>if b=true then te r q λv j=>j D=some (.lst c)/\∃e,e<m/\W (i+1) e (c++[v]) (upd j D (.lst (c++[v])))else ∃e,e<m/\W (i+1) e c q)):=by
 obtain⟨W,A,w⟩:=oG (te:=te) (σ:=σ) C d G hsz mono step l;refine⟨W,A,λi m c a h=>?_⟩;obtain⟨h1,h2,E⟩:=w i m c a h;refine⟨h1,h2,E.imp id λ⟨g,y⟩=>⟨g,λx f F p B=>?_⟩⟩;obtain⟨o,rfl⟩:=L2.Ni B
 ·
  show(if(true:Bool)=true then te (some x::σ) f (λv j=>j D=some (.lst c)/\∃e,e<m/\W (i+1) e (c++[v]) (upd j D (.lst (c++[v]))))else ∃e,e<m/\W (i+1) e c f);rw[Zr rfl];exact y x f F
inductive BJ(X:Cx):List ar->TA->Prop
 |nil:BJ X [] hJ
 |cons {e:ar}{es:List ar}{te:TE}{t:TA}(h:PE X e te) (r:BJ X es t) (hs:starEach (e::es) X.env=(false,eval e X.env)::starEach es X.env):BJ X (e::es) (iN te t)
theorem BJ.go{X:Cx}:∀{a:List ar}{t:TA},BJ X a t->PA X a t
 |_,_,.nil=>aH
 |_,_,.cons h r b=>aD h r.go b
structure df(X:Cx)(e:ar)(t:TE):Prop where
 go:PE X e t
structure Gb(X:Cx)(st:ay)(t:TS):Prop where
 go:PS X st t
inductive oW(X:Cx):List ay->TS->Prop
 |one {st:ay}{t:TS}(h:Gb X st t):oW X [st] t
 |cons {st:ay}{rest:List ay}{t u:TS}(h:Gb X st t) (r:oW X rest u):oW X (st::rest) (p9 t u)
theorem oW.go{X:Cx}:∀{l:List ay}{t:TS},oW X l t->jj X l t
 |_,_,.one h=>cm h.go
 |_,_,.cons h r=>dG h.go r.go
theorem aO{X:Cx}{st:ay}{rest:List ay}{R:TS->Prop}(h:∃t,Gb X st t/\∃u,jj X rest u/\R (p9 t u)):∃t,jj X (st::rest) t/\R t:=by
 obtain⟨t,h1,u,h2,a⟩:=h;exact⟨_,dG h1.go h2,a⟩
theorem fV{X:Cx}{st:ay}{R:TS->Prop}(h:∃t,Gb X st t/\R t):∃t,jj X [st] t/\R t:=by
 obtain⟨t,h1,a⟩:=h;exact⟨_,cm h1.go,a⟩
inductive cw(X:Cx):List ar->TA->Prop
 |nil:cw X [] hJ
 |cons {e:ar}{es:List ar}{te:TE}{t:TA}(h:df X e te) (r:cw X es t) (hs:starEach (e::es) X.env=(false,eval e X.env)::starEach es X.env):cw X (e::es) (iN te t)
theorem cw.go{X:Cx}:∀{a:List ar}{t:TA},cw X a t->PA X a t
 |_,_,.nil=>aH
 |_,_,.cons h r b=>aD h.go r.go b
theorem Ij{X:Cx}{T id:String}{name:aq}{r:V->List V->Hp->VK->Prop}{o e:ar}{es:List ar}{c:TE}{t:TA}{a b:aA}(pa:PlainAttrs T)(slot:Slot T name id)(j:typeOf (.builtin id)=pure (.type "method_descriptor"))(d:Gh X id r)(g:df X o c)(l:cw X (e::es) t)
  (i:attributeBase o name X.env (eval o X.env)=eval o X.env:=by rfl)
  (h:((backTo b (starEach (e::es) X.env)).all (λx=>!x.1)&&(backToKw b (keywordEach [] X.env)).all (λx=>x.1.isSome)
   && decide ((e::es).length+([]:List Keyword).length+(if([]:List Keyword).isEmpty then 0 else 1)<30))=true:=by rfl)
  (k:(a.endLine==b.line)=true:=by rfl) (hs:starEach (e::es) X.env=(false,eval e X.env)::starEach es X.env:=by rfl) (f:(backTo b (starEach es X.env)).any (·.1)=false:=by rfl):
  df X (.Call (.Attribute o name a) (e::es) [] b) (Tn X.K T r c t):=⟨vo pa slot j d g.go l.go i h k hs f⟩
inductive Ai(X:Cx)(pos:aA):List (Option ar)->List ar->List (TE×TE)->Prop
 |nil:Ai X pos [] [] []
 |cons {k v:ar}{ks:List (Option ar)}{vs:List ar}{tk tv:TE}{ij:List (TE×TE)}(hk:df X k tk) (hv:df X v tv) (r:Ai X pos ks vs ij):Ai X pos (some k::ks) (v::vs) ((tk,tv)::ij)
theorem Ai.go{X:Cx}{a:aA}:∀{b:List (Option ar)}{d:List ar}{c:List (TE×TE)},Ai X a b d c->BF X a b d c
 |_,_,_,.nil=>xx5
 |_,_,_,.cons e f r=>xk5 e.go f.go r.go
theorem xc4{X:Cx}{b:aA}{keys:List (Option ar)}{a:List ar}{c:List (TE×TE)}(d:X.A.units<cLine)(h:Ai X b keys a c)(f:keys.all (·.isSome)=true)(e:keys.length=a.length)(h0:keys≠[])
  (g:keys.length<=15):df X (.Dict keys a b) (KN c):=⟨xm5 d h.go f e h0 g⟩
theorem T4{X:Cx}{b:aA}{keys:List (Option ar)}{a:List ar}{c:List (TE×TE)}(h:Ai X b keys a c)(e:keys.all (·.isSome)=true)(d:keys.length=a.length)(h0:keys≠[])
  (f:keys.length<=15):df X (.Dict keys a b) (Tb c):=⟨xx6 h.go e d h0 f⟩
theorem AB{X:Cx}{i:Int}{j:Nat}{a:aA}:df X (.Constant (.int i) j a) (tC (.int i)):=⟨aR⟩
theorem x_{X:Cx}{i:Nat}{x:aq}{e:ar}{te:TE}{b a:aA}(d:X.N.Nodup)(g:X.N[i]?=some x)(f:Loc X.env.scope x)(c:df X e te)(hs:swapsWith e (some (.Name x a)) b.line X.env=pure false)(h:X.fn x=true):
  Gb X (.Assign [.Name x a] e b) (lu te (eZ i)):=⟨R_ d g f c.go hs (.inl h)⟩
theorem UH{X:Cx}{a b c d:Int}{g i f j:Nat}{pa pb pc pd e:aA}{h:Nat}:df X (.Tuple [.Constant (.int a) g pa,.Constant (.int b) i pb,.Constant (.int c) f pc,.Constant (.int d) j pd] h e) (gH (iN (tC (.int a)) (iN (tC (.int b)) (iN (tC (.int c)) (iN (tC (.int d)) hJ))))):=
 ⟨kq (BJ.go (.cons aR (.cons aR (.cons aR (.cons aR .nil rfl) rfl) rfl) rfl))⟩
theorem xc5{X:Cx}{a b c d e f g h x y:Int}{H B l F u s v G D p:Nat}{pa pb pc pd i r j m E I k A q:aA}{J C:Nat}(w:X.A.units<cLine):
  df X (.Dict [some (.Tuple [.Constant (.int a) H pa,.Constant (.int b) B pb,.Constant (.int c) l pc,.Constant (.int d) F pd] J A),some (.Tuple [.Constant (.int e) u i,.Constant (.int f) s r,.Constant (.int g) v j,.Constant (.int h) G m] C q)] [.Constant (.int x) D E,.Constant (.int y) p I] k)
   (KN [(gH (iN (tC (.int a)) (iN (tC (.int b)) (iN (tC (.int c)) (iN (tC (.int d)) hJ)))),tC (.int x)),(gH (iN (tC (.int e)) (iN (tC (.int f)) (iN (tC (.int g)) (iN (tC (.int h)) hJ)))),tC (.int y))]):=
 xc4 w (.cons UH AB (.cons UH AB .nil)) rfl rfl (λz=>nomatch z) 'b'
end L2
namespace Pr
open PySem L2 Qf
def ba(H:Hp)(p:ae):Prop:=∃a b:Int,H p=some (.lst [.int a,.int b])/\0<=a/\0<=b/\b<2^40
theorem ba.same{H c:Hp}{p:ae}(h:ba H p)(s:aC H c):ba c p:=by
 obtain⟨a,b,e,r⟩:=h;exact⟨a,b,s _ _ e,r⟩
def cF(H:Hp)(p:ae)(rows:List Row):Prop:=∃bs:List ae,H p=some (.lst (bs.map V.ref))/\bs.length=rows.length/\∀(i:Nat) b r,bs[i]?=some b->rows[i]?=some r->H b=some (.tup (vN r))
theorem cF.same{H a:Hp}{p:ae}{rows:List Row}(h:cF H p rows)(s:aC H a):cF a p rows:=by
 obtain⟨bs,h1,h2,e⟩:=h;exact⟨bs,s _ _ h1,h2,λi b r d c=>s _ _ (e i b r d c)⟩
theorem SF{C:Nat->Prop}:∀{ys:List V},(∀(i:Nat) y,ys[i]?=some y->∃x:Nat,y=.int (x:Nat)/\C x)->∃r:List Nat,ys=vN r/\∀x∈r,C x
 |[],_=>⟨[],rfl,λx b=>nomatch b⟩
 |y::ys,h=>by
  obtain⟨x,rfl,b⟩:=h 0 y rfl;obtain⟨r,rfl,c⟩:=SF (C:=C) (ys:=ys) λi z a=>h (i+1) z (by simpa using a);refine⟨x::r,rfl,λz a=>?_⟩;rcases ZB.mp a with rfl|a
  ·exact b
  ·exact c z a
theorem xc7{H:Hp}{n:Nat}{te:TE}{σ:St}{Fin:Hp->Prop}{D p:ae}(A:H D=none)(N:p≠D)(I:Hp->Prop)(d:Nat->V->Prop)(hsz:n<sizeLine)(i0:∀a o,I a->I (upd a D o))(O:I H)
  (step:∀i a,i<n->bJ p H a->I a->∀C:VK,(∀y f,bJ p a f->I f->d i y->C y f)->te (some (.int (0+(i:Int)))::σ) a C)
  (s:∀c a,bJ p H a->I a->a D=some (.lst c)->c.length=n->(∀i y,c[i]?=some y->d i y)->Fin a):
  ∃W:Nat->Nat->List V->Hp->Prop,(∃m,W 0 m [] (upd H D (.lst []))) /\
   ∀i m k a,W i m k a->a D=some (.lst k)/\k.length<sizeLine/\(((sP 0 n).stop i a/\Fin a)\/((sP 0 n).go i a/\∀y f,(sP 0 n).mV i a y f ->
    te (some y::σ) f λv u=>u D=some (.lst k)/\∃E,E<m/\W (i+1) E (k++[v]) (upd u D (.lst (k++[v]))))):=by
 refine⟨λi m c a=>i<=n/\m=n-i/\c.length=i/\a D=some (.lst c)/\bJ p H a/\I a/\∀j y,c[j]?=some y->d j y,⟨n,ZU _,rfl,rfl,aX,bJ.of (bF A),i0 _ _ O,λj y h=>by simp at h⟩,?_⟩;rintro i m c a ⟨Q,rfl,B,q,r,x,l⟩;refine⟨q,by lia,?_⟩;by_cases L:i=n
 ·subst L;exact .inl ⟨Zg i,s c a r x q B l⟩
 ·refine .inr ⟨show i<n by lia,λy f P=>?_⟩;obtain⟨M,G⟩:=P;rw[M,G];refine step i a 'a' r x _ λv u w J K=>?_;refine⟨w _ _ q (Z2 N),n-(i+1),by lia,by lia,rfl,by rw[Zk,B];rfl,aX,?_,i0 _ _ J,λj z g=>?_⟩
  ·intro b o e F;rw[bo (ck e A)];exact w _ _ (r _ _ e F) F
  ·by_cases R:j<i
   ·rw[Zm 'a']at g;exact l j z g
   ·rw[Zs 'a']at g;have:j-c.length=0:=by
     have:=(cx g).1;simp at this;exact this
    rw[this]at g;have:z=v:=by simpa using g.symm
    subst this;have:j=i:=by lia
    subst this;exact K
def c8{a b:Type}(key:a->b)(l:List a)(k:Nat):List (b×V):=(l.zipIdx k).map λp=>(key p.1,V.int (p.2:Nat))
section
variable{α κ:Type}[DecidableEq α][DecidableEq κ]{key:α->κ}
theorem yg(l:List α)(k:Nat):(c8 key l k).length=l.length:=by simp[c8]
theorem UG(a:α)(l:List α)(k:Nat):c8 key (a::l) k=(key a,V.int (k:Nat))::c8 key l (k+1):=by simp[c8]
theorem MX(l:List α)(a:α)(k:Nat):c8 key (l++[a]) k=c8 key l k++[(key a,V.int (k+l.length:Nat))]:=by simp[c8,List.zipIdx_append]
theorem tN(inj:∀a b,key a=key b->a=b)(a:α):∀(l:List α)(k:Nat),br (c8 key l k) (key a)=if a∈l then some (.int (k+l.idxOf a:Nat))else none
 |[],k=>by simp[c8,br]
 |b::l,k=>by
  rw[UG];by_cases h:b=a
  ·subst h;rw[pW rfl,Zr Zw,List.idxOf_cons_self]
   rfl
  ·rw[oE (λz=>h (inj _ _ z)),tN inj a l (k+1)];by_cases c:a∈l
   ·have e:(b::l).idxOf a=l.idxOf a+1:=by
     rw[List.idxOf_cons,beq_false_of_ne h]
     rfl
    rw[Zr c,Zr (Zn _ c),e];congr 3;lia
   ·rw[Zi c,Zi (λz=>by rcases ZB.mp z with z|z;exact h z.symm;exact c z)]
theorem MC(inj:∀a b,key a=key b->a=b){l:List α}{a:α}{k:Nat}(h:a∉l):putK (c8 key l k) (key a) (.int (k+l.length:Nat))=c8 key (l++[a]) k:=by
 unfold putK;rw[pV,tN inj,Zi h,Zi 'c',MX]
end
def eQ(p:Nat):Key:=Sum.inl ((p+2:Nat):Int)
theorem CJ(a b:Nat)(h:eQ a=eQ b):a=b:=by
 have:((a+2:Nat):Int)=((b+2:Nat):Int):=Vc h;lia
def fK(es:List Nat):List (Key×V):=c8 eQ es 2
theorem cF.but{H a:Hp}{p e:ae}{rows:List Row}{o:HO}(h:cF H p rows)(b:bJ e H a)(k:p≠e)(d:H e=some o)(no:∀u,o≠.tup u):cF a p rows:=by
 obtain⟨bs,h1,h2,g⟩:=h;exact⟨bs,b _ _ h1 k,h2,λi c r j f=>b.cC d no _ _ (g i c r j f)⟩
theorem GF{H c:Hp}{a:ae}{o:HO}(s:aC H c)(h:H a=none):aC H (upd c a o):=λb u e=>by
 rw[bo (ck e h)];exact s b u e
theorem SE:∀{ys:List V},(∀(i:Nat) y,ys[i]?=some y->∃b:ae,y=.ref b)->∃a:List ae,ys=a.map V.ref
 |[],_=>⟨[],rfl⟩
 |y::ys,h=>by
  obtain⟨b,rfl⟩:=h 0 y rfl;obtain⟨a,rfl⟩:=SE (ys:=ys) λi z c=>h (i+1) z (by simpa using c);exact⟨b::a,rfl⟩
def kT(a:List Row):List (List Key×V):=c8 aU a 0
theorem xJ0{a:List Row}{i:Nat}{kv:List Key×V}(h:(kT a)[i]?=some kv):∃r,a[i]?=some r/\kv.1=aU r:=by
 unfold kT c8 at h;rw[Zf]at h;obtain⟨p,b,rfl⟩:=Zp.mp h;rw[WR]at b;obtain⟨r,c,rfl⟩:=Zp.mp b;exact⟨r,c,rfl⟩
theorem xJ1{es:List Nat}{i:Nat}{kv:Key×V}(h:(fK es)[i]?=some kv):∃p,es[i]?=some p/\kv.1=eQ p:=by
 unfold fK c8 at h;rw[Zf]at h;obtain⟨p,a,rfl⟩:=Zp.mp h;rw[WR]at a;obtain⟨r,b,rfl⟩:=Zp.mp a;exact⟨r,b,rfl⟩
def dY:List (Key×V):=[(Sum.inl 0,.int 0),(Sum.inl 1,.int 1)]
theorem MA(p:Nat):br dY (eQ p)=none:=by
 unfold dY eQ;rw[oE (λz=>by have:=Vc z;lia),oE (λz=>by have:=Vc z;lia)]
 rfl
theorem LO{c:Type}[DecidableEq c](a b:List (c×V))(k:c):br (a++b) k=(br a k).or (br b k):=by
 unfold br;rw[List.find?_append];cases List.find? (λd=>decide (d.1=k)) a<;>rfl
theorem TZ:∀(b:List Nat)(a:List Nat),(a++b).Nodup->pO (dY++c8 eQ a 2) (c8 eQ b (2+a.length))=dY++c8 eQ (a++b) 2
 |[],a,_=>by
  rw[XC]
  rfl
 |p::b,a,nd=>by
  rw[UG];show pO (putK (dY++c8 eQ a 2) (eQ p) (.int (2+a.length:Nat))) (c8 eQ b (2+a.length+1))=_;have d:p∉a:=λz=>(Yk.mp nd).2.2 p z p Zw rfl;have e:putK (dY++c8 eQ a 2) (eQ p) (.int (2+a.length:Nat))=dY++c8 eQ (a++[p]) 2:=by
   unfold putK;rw[pV,LO,MA,tN CJ,Zi d,Zi 'c',MX,Z6]
  have c:(a++[p]++b).Nodup:=by rw[Z6];exact nd
  have:=TZ b (a++[p]) c;rw[Zk,show 2+(a.length+[p].length)=2+a.length+1 from rfl,Z6]at this;rw[e];exact this
theorem KI{es:List Nat}{q:Nat}(h:p6 es q):br (dY++fK es) (Sum.inl (q:Int))=some (.int (nm es q:Nat)):=by
 by_cases z:q<2
 ·rw[oq z]
  match q,z with
  |0,_=>rfl
  |1,_=>rfl
 ·have a:=h.resolve_left z;have b:(Sum.inl (q:Int):Key)=eQ (q-2):=by
   show(Sum.inl (q:Int):Key)=Sum.inl ((q-2+2:Nat):Int);rw[show q-2+2=q by lia]
  rw[b,LO,MA,pq z];show br (c8 eQ es 2) _=_;rw[tN CJ,Zr a];congr 3;lia
def oo(n top:Nat)(rows:List Row):PyData:=.tuple [.int (n:Nat),.int (top:Nat),.tuple (rows.map λr=>dT (r.map λx:Nat=>(x:Int)))]
theorem AR{H:Hp}:∀{bs:List ae}{rows:List Row},bs.length=rows.length->(∀(i:Nat) b r,bs[i]?=some b->rows[i]?=some r->H b=some (.tup (vN r))) ->
  aT H (bs.map V.ref) (rows.map λr=>dT (r.map λx:Nat=>(x:Int)))
 |[],[],_,_=>.nil
 |b::bs,r::rows,d,h=>by
  refine .cons ?_ (AR (by simpa using d) λi c q f e=>h (i+1) c q (by simpa using f) (by simpa using e));have a:=h 0 b r rfl rfl;rw[si]at a;exact .tup a (aT.ints _)
theorem xd0{H:Hp}{t:ae}{n top:Nat}{rows:List Row}(h:cD H t n top rows):cq H (.ref t) (oo n top rows):=by
 obtain⟨p,d,bs,c,a,b⟩:=h;exact .tup d (.cons (.int _) (.cons (.int _) (.cons (.tup c (AR a b)) .nil)))
theorem Mz:∀rows:List Row,PyData.canLayAll0 (rows.map λr=>dT (r.map λx:Nat=>(x:Int)))=true
 |[]=>rfl
 |r::rows=>by
  rw[ZL,PyData.canLayAll0,M3,Mz rows];rfl
theorem VB:∀a:List Int,PyData.depthAll (a.map PyData.int)=0
 |[]=>rfl
 |n::a=>by rw[ZL,PyData.depthAll,VB a];rfl
theorem LH:∀rows:List Row,PyData.depthAll (rows.map λr=>dT (r.map λx:Nat=>(x:Int)))<=1
 |[]=>by decide
 |r::rows=>by
  have:=LH rows;have e:(dT (r.map λx:Nat=>(x:Int))).depth=1:=by
   show PyData.depthAll _+1=1;rw[VB]
  rw[ZL,PyData.depthAll,e];lia
theorem TY(a:List ae)(t:ae):a.map V.ref++[.ref t]=(a++[t]).map V.ref:=by rw[ZW];rfl
def tK(rows:List Row):List (List Key×V):=c8 aU rows 2
theorem xn9{b:Type}{c d:BEq b}(h1:@LawfulBEq b c)(h2:@LawfulBEq b d)(l:List b)(a:b):@List.idxOf b c a l=@List.idxOf b d a l:=by
 cases T5 h1 h2
 rfl
theorem RT(rows:List Row)(r:Row):br (tK rows) (aU r)=if r∈rows then some (.int (rows.idxOf r+2:Nat))else none:=by
 unfold tK;rw[tN (λa b=>vd)];split
 ·rw[Vs];exact Yo (λn:Nat=>some (V.int ((n+2:Nat):Int))) (xn9 (by infer_instance) (by infer_instance) _ _)
 ·rfl
theorem mm{e f:Hp}{t n tp:Nat}{rows:List Row}(h:gO e t n tp rows)(s:aC e f):gO f t n tp rows:=let ⟨⟨p,a,b⟩,c,d⟩:=h;⟨⟨p,s _ _ a,b.same s⟩,c,d⟩
end Pr
namespace L2
open PySem PySem.Spec PyProof.Rows
mutual
inductive aV(H:Hp):V->PyData->Prop
 |cA:aV H .cA .none
 |bl (b:Bool):aV H (.bl b) (.bool b)
 |int (i:Int):aV H (.int i) (.int i)
 |str (x:aq):aV H (.str x) (.str x)
 |lst {a:ae}{xs:List V}{ds:List PyData}(h:H a=some (.lst xs)) (r:bb H xs ds):aV H (.ref a) (.list ds)
 |tup {a:ae}{xs:List V}{ds:List PyData}(h:H a=some (.tup xs)) (r:bb H xs ds):aV H (.ref a) (.tuple ds)
 |JK {a:ae}(h:H a=some (.dK [])):aV H (.ref a) (.dict [])
inductive bb(H:Hp):List V->List PyData->Prop
 |nil:bb H [] []
 |cons {x:V}{xs:List V}{d:PyData}{ds:List PyData}(h:aV H x d) (r:bb H xs ds):bb H (x::xs) (d::ds)
end
section
variable{H:Hp}
mutual
theorem aV.same{a:Hp}(s:∀b o,H b=some o->a b=some o):∀{x:V}{d:PyData},aV H x d->aV a x d
 |_,_,.cA=>.cA
 |_,_,.bl b=>.bl b
 |_,_,.int i=>.int i
 |_,_,.str x=>.str x
 |_,_,.lst e r=>.lst (s _ _ e) (bb.same s r)
 |_,_,.tup e r=>.tup (s _ _ e) (bb.same s r)
 |_,_,.JK e=>.JK (s _ _ e)
theorem bb.same{c:Hp}(s:∀b o,H b=some o->c b=some o):∀{d:List V}{a:List PyData},bb H d a->bb c d a
 |_,_,.nil=>.nil
 |_,_,.cons h r=>.cons (aV.same s h) (bb.same s r)
end
mutual
theorem aV.of:∀{x:V}{d:PyData},cq H x d->aV H x d
 |_,_,.cA=>.cA
 |_,_,.bl b=>.bl b
 |_,_,.int i=>.int i
 |_,_,.str x=>.str x
 |_,_,.lst e r=>.lst e (bb.of r)
 |_,_,.tup e r=>.tup e (bb.of r)
theorem bb.of:∀{a:List V}{b:List PyData},aT H a b->bb H a b
 |_,_,.nil=>.nil
 |_,_,.cons h r=>.cons (aV.of h) (bb.of r)
end
theorem bb.get:∀{b:List V}{a:List PyData}{i:Nat}{x:V},bb H b a->b[i]?=some x->∃d,a[i]?=some d/\aV H x d
 |_,_,_,_,.nil,e=>by simp at e
 |_,_,0,_,.cons h r,e=>by simp at e;subst e;exact⟨_,rfl,h⟩
 |_,_,i+1,x,.cons h r,e=>by
  obtain⟨d,f,c⟩:=bb.get (i:=i) (x:=x) r (by simpa using e);exact⟨d,by simpa using f,c⟩
theorem bb.length:∀{a:List V}{b:List PyData},bb H a b->a.length=b.length
 |_,_,.nil=>rfl
 |_,_,.cons h r=>by rw[ZD,ZD,bb.length r]
def He:PyData->aa
 |.none=>.type "NoneType"
 |.bool _=>.type "bool"
 |.int _=>.type "int"
 |.str _=>.type "str"
 |.list _=>.type "list"
 |.tuple _=>.type "tuple"
 |.dict _=>.type "dict"
theorem aV.ty{K:PySem.W.Frag}:∀{x:V}{d:PyData},aV H x d->gX K H x (He d)
 |_,_,.cA=>.cA
 |_,_,.bl b=>.bl b
 |_,_,.int i=>.int i
 |_,_,.str x=>.str x
 |_,_,.lst e _=>.lst e
 |_,_,.tup e _=>.tup e
 |_,_,.JK e=>.dK e
def N_:PyData->Bool
 |.int _=>true
 |_=>false
def zl:PyData->Bool
 |.int _=>true
 |.bool _=>true
 |_=>false
def isB:PyData->Bool
 |.bool _=>true
 |_=>false
def Eg:PyData->Bool
 |.tuple _=>true
 |_=>false
theorem xA1{K:PySem.W.Frag}(d:PyData):PySem.W.kitOne K (He d) (.type "int")=some (zl d):=by cases d<;>rfl
theorem xo0{K:PySem.W.Frag}(d:PyData):PySem.W.kitOne K (He d) (.type "bool")=some (isB d):=by cases d<;>rfl
theorem MW{K:PySem.W.Frag}(d:PyData):PySem.W.kitOne K (He d) (.type "tuple")=some (Eg d):=by cases d<;>rfl
def ko(a:Nat):PyData->Bool
 |.int i=>decide (0<=i/\i<=(a:Int))
 |_=>false
def jq(a:Nat):PyData->Bool
 |.tuple b=>b.length==4&&b.all (ko (a+1))
 |_=>false
def BN:PyData->Bool
 |.tuple a=>a.zipIdx.all λp=>jq p.2 p.1
 |_=>false
end
end L2
namespace Pr
open PySem L2 Qf
section
variable{mg:aq->Option aa}{base:ao}
def My:Sp:=λa H Q _=>∃(v:V)(d:PyData),a=[v]/\aV H v d/\Q (.bl (N_ d)) H
theorem UE{f:ae}{i:ai}(F:aP K "is_whole" "is_whole" uX f i)(B:d_ mg):aB P w K mg base aJ 1 f i ["thing"] My:=by
 refine F.ok SN (λk H Q E h=>?_) (λm A a s H k Q E l h=>?_)
 ·obtain⟨v,d,rfl,_⟩:=h
  rfl
 ·obtain⟨v,d,rfl,c,q⟩:=h;refine⟨_,cm (cj (su (cQ nI 'd' B.m9 ZA (aD (pv 0) (aD (pT (v:=.ty "int") 'd' B.int YW rfl) aH)))
   (sy (Sa (cQ nI 'd' B.m9 ZA (aD (pv 0) (aD (pT (v:=.ty "bool") 'd' B.bool PyProof.Rows.boot_bool rfl) aH))))))),?_⟩
  refine⟨_,rfl,_,_,_,_,_,rfl,rfl,.inl c.ty,xA1 d,_,rfl,?_⟩;by_cases b:zl d=true
  ·rw[b];refine cB ⟨_,rfl,_,_,_,_,_,rfl,rfl,.inl c.ty,xo0 d,_,rfl,?_⟩;have e:N_ d=!isB d:=by cases d<;>first|rfl|cases b
   rw[e]at q;exact q
  ·have g:zl d=false:=by simpa using b
   have j:N_ d=false:=by cases d<;>first|rfl|cases g
   rw[g];rw[j]at q;exact b_ q
def L_:Sp:=λa H Q _=>∃(v:V)(d:PyData),a=[v]/\aV H v d/\Q (.bl (ko 12 d)) H
theorem xo1{f g:ae}{k c:ai}(F:aP K "is_size" "is_size" yk f k)(B:d_ mg)(T:lh mg)(u:mg "is_whole"=some (.ref g))(j:aP K "is_whole" "is_whole" uX g c)(p:Binds K c ["thing"] []):aB P w K mg base aJ 2 f k ["thing"] L_:=by
 have l:aB P w K mg base aJ 1 g c ["thing"] My:=UE j B;obtain⟨C,x⟩:=T.great;refine F.ok RX (λr H Q E h=>?_) (λD A b s H r Q E m h=>?_)
 ·obtain⟨v,d,rfl,_⟩:=h
  rfl
 ·obtain⟨v,d,rfl,i,q⟩:=h;refine⟨_,cm (cj (su (bZ l m u j.kp p (aD (pv 0) aH)) (sy (HH tV tV aR (pv 0) (cX (v:=.int 12) 'd' x ⟨_,rfl⟩))))),?_⟩;refine⟨_,rfl,v,d,rfl,i,_,rfl,?_⟩;cases i with
  |int n=>
   refine cB ⟨_,rfl,_,_,rfl,rfl,_,rfl,?_⟩;refine dD (λh1=>⟨_,_,rfl,rfl,?_⟩) (λh1=>?_)
   ·have a:=ZI h1;have e:decide ((n:Int)<=12)=ko 12 (.int n):=by
     show _=decide (0<=n/\n<=((12:Nat):Int));by_cases z:n<=12
     ·rw[Zq z,Zq ⟨a,z⟩]
     ·rw[Zy z,Zy λy=>z y.2]
    show Q (V.bl (decide ((n:Int)<=12))) H;rw[e];exact q
   ·have a:¬(0:Int)<=n:=λz=>h1 (Zq z);have e:ko 12 (.int n)=false:=Zy λy=>a y.1;rw[e]at q;exact q
  |_=>exact b_ q
def HM:Sp:=λa H Q _=>∃(v:V)(d:PyData)(m:Nat),a=[v,.int (m:Nat)]/\aV H v d/\Q (.bl (ko (m+1) d)) H
theorem q24{f g:ae}{k c:ai}(F:aP K "is_number" "is_number" tL f k)(B:d_ mg)(T:lh mg)(C:mg "is_whole"=some (.ref g))(j:aP K "is_whole" "is_whole" uX g c)(r:Binds K c ["thing"] []):aB P w K mg base aJ 2 f k ["thing","many"] HM:=by
 have l:aB P w K mg base aJ 1 g c ["thing"] My:=UE j B;obtain⟨G,u⟩:=T.first;refine F.ok T_ (λx H Q E h=>?_) (λD A b s H x Q E p h=>?_)
 ·obtain⟨v,d,m,rfl,_⟩:=h
  rfl
 ·obtain⟨v,d,m,rfl,i,q⟩:=h;refine⟨_,cm (cj (su (bZ l p C j.kp r (aD (pv 0) aH)) (sy (HH tV mi aR (pv 0) (cy iR (pv 1) (cX (v:=.int 2) 'd' u ⟨_,rfl⟩)))))),?_⟩;refine⟨_,rfl,v,d,rfl,i,_,rfl,?_⟩;cases i with
  |int n=>
   refine cB ⟨_,rfl,_,_,rfl,rfl,_,rfl,?_⟩;refine dD (λh1=>⟨_,rfl,_,_,rfl,rfl,_,_,rfl,rfl,?_⟩) (λh1=>?_)
   ·have a:=ZI h1;have e:decide ((n:Int)<(m:Int)+2)=ko (m+1) (.int n):=by
     show _=decide (0<=n/\n<=((m+1:Nat):Int));by_cases z:n<(m:Int)+2
     ·rw[Zq z,Zq ⟨a,by lia⟩]
     ·rw[Zy z,Zy λy=>z (by have:=y.2;lia)]
    show Q (V.bl (decide ((n:Int)<(m:Int)+2))) H;rw[e];exact q
   ·have a:¬(0:Int)<=n:=λz=>h1 (Zq z);have e:ko (m+1) (.int n)=false:=Zy λy=>a y.1;rw[e]at q;exact q
  |_=>exact b_ q
end
theorem Mx{m:Nat}{d:PyData}(h:ko m d=true):∃x:Nat,d=.int (x:Nat)/\x<=m:=by
 cases d with
 |int i=>
  have h:decide (0<=i/\i<=(m:Int))=true:=h;obtain⟨h1,h2⟩:=ZI h;exact⟨i.toNat,by rw[Int.toNat_of_nonneg h1],by lia⟩
 |_=>cases h
theorem UC{m:Nat}:∀{b:List PyData},b.all (ko m)=true->∃r:Row,b=(r.map λx:Nat=>(x:Int)).map PyData.int/\∀x∈r,x<=m
 |[],_=>⟨[],rfl,λx a=>nomatch a⟩
 |d::b,h=>by
  rw[List.all_cons,YB]at h;obtain⟨x,rfl,a⟩:=Mx h.1;obtain⟨r,rfl,e⟩:=UC h.2;exact⟨x::r,rfl,λy c=>by
   rcases ZB.mp c with rfl|c
   ·exact a
   ·exact e y c⟩
def dR(r:Row):PyData:=dT (r.map λx:Nat=>(x:Int))
theorem xJ2{i:Nat}{d:PyData}(h:jq i d=true):∃r:Row,d=dR r/\yn i r:=by
 cases d with
 |tuple a=>
  have h:(a.length==4&&a.all (ko (i+1)))=true:=h;rw[YB]at h;obtain⟨r,rfl,c⟩:=UC h.2;have e:r.length=4:=by simpa using h.1
  exact⟨r,rfl,e,λx b=>by have:=c x b;lia⟩
 |_=>cases h
theorem VI:∀{b:List PyData}{k:Nat},(b.zipIdx k).all (λp=>jq p.2 p.1)=true->∃rows:List Row,b=rows.map dR/\∀i r,rows[i]?=some r->yn (k+i) r
 |[],k,_=>⟨[],rfl,λi r h=>by simp at h⟩
 |d::b,k,h=>by
  rw[Vn,List.all_cons,YB]at h;obtain⟨r,rfl,e⟩:=xJ2 h.1;obtain⟨rows,rfl,a⟩:=VI h.2;refine⟨r::rows,rfl,λi q c=>?_⟩;cases i with
  |zero=>
   cases c;exact e
  |succ i=>
   have:=a i q c;rw[show k+(i+1)=k+1+i by lia];exact this
theorem xA2{d:PyData}(h:BN d=true):∃rows:List Row,d=.tuple (rows.map dR)/\cz rows:=by
 cases d with
 |tuple c=>
  obtain⟨rows,rfl,b⟩:=VI (k:=0) h;exact⟨rows,rfl,λi r a=>by have:=b i r a;rwa [Xn]at this⟩
 |_=>cases h
theorem UB{H:Hp}:∀{a:List V}{r:Row},bb H a ((r.map λx:Nat=>(x:Int)).map PyData.int)->a=vN r
 |_,[],.nil=>rfl
 |_,x::r,.cons h t=>by
  cases h;rw[UB t]
  rfl
theorem xA3{H:Hp}{v:V}{r:Row}(h:aV H v (dR r)):∃b,v=.ref b/\H b=some (.tup (vN r)):=by
 cases h with
 |tup e t=>exact⟨_,rfl,by rw[e,UB t]⟩
theorem UA{H:Hp}:∀{f:List V}{rows:List Row},bb H f (rows.map dR)->∃bs:List ae,f=bs.map V.ref/\bs.length=rows.length/\∀(i:Nat) b r,bs[i]?=some b->rows[i]?=some r->H b=some (.tup (vN r))
 |_,[],.nil=>⟨[],rfl,rfl,λi b r e=>by simp at e⟩
 |_,r::rows,.cons h t=>by
  obtain⟨b,rfl,hb⟩:=xA3 h;obtain⟨bs,rfl,g,j⟩:=UA t;refine⟨b::bs,rfl,by rw[ZD,ZD,g],λi c q d a=>?_⟩;cases i with
  |zero=>
   cases d;cases a;exact hb
  |succ i=>exact j i c q d a
theorem TX{H:Hp}{v:V}{rows:List Row}(h:aV H v (.tuple (rows.map dR))):∃p,v=.ref p/\bq H p rows:=by
 cases h with
 |tup e t=>
  obtain⟨bs,rfl,h1,h2⟩:=UA t;exact⟨_,rfl,bs,e,h1,h2⟩
section
variable{mg:aq->Option aa}{base:ao}
def KH:Sp:=λb H Q _=>∃(v:V)(d:PyData)(i:Nat),b=[v,.int (i:Nat)]/\aV H v d/\∀a,aC H a->Q (.bl (jq i d)) a
theorem xA4{f p:ae}{M l:ai}(F:aP K "is_row" "is_row" l_ f M)(B:d_ mg)(N:mg "is_number"=some (.ref p))(FN:aP K "is_number" "is_number" tL p l)(bN:Binds K l ["thing","many"] [])(X:aB P w K mg base aJ 2 p l ["thing","many"] HM):aB P w K mg base aJ 3 f M ["thing","before"] KH:=by
 refine F.ok n_ (λZ H Q E h=>?_) (λbp A u s H Z Q E S h=>?_)
 ·obtain⟨v,d,i,rfl,_⟩:=h
  rfl
 ·obtain⟨v,d,i,rfl,J,q⟩:=h;refine⟨_,dG (c9 (jr (i_ (il (cQ nI 'd' B.m9 ZA (aD (pv 0) (aD (pT (v:=.ty "tuple") 'd' B.tuple ZE rfl) aH)))))
    (m7 (dI qH (cQ iq 'd' B.len ZF (aD (pv 0) aH)) aR (cP _)))).pt (cm (cj js)) c_)
   (cm (cj (cQ (HQ rfl) 'd' B.all XR (aD (oB ["thing","before"] (cg l_) rfl rfl rfl n_.nd (vt K rfl (pv 0)) (λcl C fp aG aK=>bZ X S N FN.kp bN (aD (pv 0) (aD (pv 2) aH)))) aH)))),?_⟩
  refine⟨_,rfl,_,_,_,_,_,rfl,rfl,.inl J.ty,MW d,_,rfl,?_⟩;cases J with
  |@tup b y a hb r=>
   refine b_ ⟨_,rfl,b,_,rfl,.inr (aQ.of hb),rfl,_,rfl,?_⟩;have I:=r.length;by_cases c:y.length=4
   ·refine Kh (by rw[c];rfl) ?_;refine⟨_,rfl,b,rfl,⟨_,aQ.of hb⟩,λD T=>oG T (λj z _=>∃d,a[j]?=some d/\z=.bl (ko (i+1) d)) (pA (K:=K) hb) (by rw[c];decide) (λ_ _ _ _ _ _ h=>h) ?_ ?_⟩
    ·intro j x L hj m G Q' hq;obtain⟨d,g,k⟩:=r.get m;exact⟨_,rfl,_,rfl,x,d,i,rfl,k.same G,hq _ _ (aC.refl _) ⟨d,g,rfl⟩⟩
    ·intro O L G W U R;have e:O=(a.map (ko (i+1))).map V.bl:=by
      refine pz (by rw[U,I];simp) λj x m=>?_;obtain⟨d,g,rfl⟩:=R j x m;rw[Zf,Zf,g];rfl
     refine⟨D,a.map (ko (i+1)),rfl,by rw[<- e];exact W,?_⟩;have Y:(a.map (ko (i+1))).all id=jq i (.tuple a):=by
      show _=(a.length==4&&a.all (ko (i+1)));rw[<- I,c,List.all_map]
      rfl
     rw[Y];exact q L G
   ·have g:(decide (V.int ((y.length:Nat):Int)=V.int 4))=false:=Zy λz=>c (by have:=V.int.inj z;lia);rw[g];refine cB ?_;have k:jq i (.tuple a)=false:=by
     show(a.length==4&&a.all (ko (i+1)))=false;rw[<- I,show(y.length==4)=false by rw[YD];exact c]
     rfl
    have:=q H (aC.refl _);rw[k]at this;exact this
  |_=>exact cB (q H (aC.refl _))
def L9:Sp:=λc H Q _=>∃(v:V)(d:PyData),c=[v]/\aV H v d/\(∀a,d=.tuple a->a.length<=900)/\∀b,aC H b->Q (.bl (BN d)) b
theorem xo2{f b:ae}{J e:ai}(F:aP K "are_rows" "are_rows" tS f J)(B:d_ mg)(V:mg "is_row"=some (.ref b))(FR:aP K "is_row" "is_row" l_ b e)(O:Binds K e ["thing","before"] [])(GR:aB P w K mg base aJ 3 b e ["thing","before"] KH):aB P w K mg base aJ 4 f J ["thing"] L9:=by
 refine F.ok lC (λY H Q E h=>?_) (λbp A c s H Y Q E S h=>?_)
 ·obtain⟨v,d,rfl,_⟩:=h
  rfl
 ·obtain⟨v,d,rfl,u,g,q⟩:=h;refine⟨_,cm (cj (su (cQ nI 'd' B.m9 ZA (aD (pv 0) (aD (pT (v:=.ty "tuple") 'd' B.tuple ZE rfl) aH)))
   (sy (cQ (HQ rfl) 'd' B.all XR (aD (MK ["thing"] (cg tS) rfl rfl rfl lC.nd (Ui 'd' B.enum (aD (pv 0) aH)) (λcl C fp aG aK=>bZ GR S V FR.kp O (aD (pv 1) (aD (pv 0) aH)))) aH))))),?_⟩
  refine⟨_,rfl,_,_,_,_,_,rfl,rfl,.inl u.ty,MW d,_,rfl,?_⟩;cases u with
  |@tup p xs a G r=>
   refine cB ?_;have I:=r.length;have h9:=g a rfl;refine⟨_,rfl,p,rfl,⟨_,aQ.of G⟩,λD U=>LK U (λ_=>true) (λj=>.bl (jq j (a.getD j .none))) (UP (K:=K) G) (by rw[I];exact oH 'a') ?_ ?_⟩
   ·rintro i x k hi ⟨t,y,rfl,hy,N⟩ m os R L Q2 q1 T;obtain⟨o1,o2,rfl⟩:=L2.I_ R
    ·
     obtain⟨d,e1,M⟩:=r.get hy;refine⟨t,_,rfl,aQ.of N,rfl,_,_,rfl,_,_,rfl,rfl,?_⟩;refine cB (B:=L k) ?_;refine⟨_,rfl,_,rfl,y,d,i,rfl,M.same m,λX s3=>?_⟩;have:=T rfl X s3;have e3:a.getD i .none=d:=by rw[Zt,e1];rfl
     rw[e3]at this;exact this
   ·intro k m Z;refine⟨D,(List.range a.length).map λj=>jq j (a.getD j .none),rfl,?_,?_⟩
    ·rw[Z,I,List.filter_eq_self.mpr (λ_ _=>rfl),Xm]
     rfl
    ·have W:((List.range a.length).map λj=>jq j (a.getD j .none)).all id=BN (.tuple a):=by
      show _=a.zipIdx.all λp=>jq p.2 p.1;have ez:a.zipIdx=(List.range a.length).map λj=>(a.getD j .none,j):=by
       apply XV;intro j;rw[WR,Zf];by_cases l:j<a.length
       ·rw[Y5 l,Zd l];simp[List.getD,l]
       ·rw[Yc 'a',Yc (by rw[Z5];lia)]
        rfl
      rw[ez,List.all_map,List.all_map]
      rfl
     rw[W];exact q k m
  |_=>exact b_ (q H (aC.refl _))
end
theorem GC{P:ah}{w:ak}{K:PySem.W.Frag}{mg:aq->Option aa}{base:ao}{CX:lW}{k:Nat}{f:ae}{e:ai}{ps:List aq}{sp j:Sp}(F:aB P w K mg base CX k f e ps sp)(G:aB P w K mg base CX k f e ps j):
  aB P w K mg base CX k f e ps (λd H Q E=>sp d H Q E\/j d H Q E):=
 ⟨λd H Q E h=>h.elim (F.len d H Q E) (G.len d H Q E),λA a s H c g d Q E i l b v h=>h.elim (F.run A a s H c g d Q E i l b v) (G.run A a s H c g d Q E i l b v)⟩
def Q0(d:PyData)(n tp:Nat)(rows:List Row):Prop:=d=oo n tp rows/\n<=12/\cz rows/\tp<rows.length+2
theorem K5{H:Hp}{xs:List V}{e:List PyData}(r:bb H xs e)(h:0<xs.length):∃x d f c,xs=x::f/\e=d::c/\aV H x d/\bb H f c:=by
 cases r with
 |nil=>exact absurd h (YH _)
 |cons a b=>exact⟨_,_,_,_,rfl,rfl,a,b⟩
theorem xO5{H:Hp}{xs:List V}{a:List PyData}(h:xs.length=3)(r:bb H xs a):∃e g b c f d,xs=[e,g,b]/\a=[c,f,d]/\aV H e c/\aV H g f/\aV H b d:=by
 obtain⟨e,c,xs,a,rfl,rfl,k,r⟩:=K5 r (by rw[h];decide);have h:xs.length+1=3:=h;obtain⟨g,f,xs,a,rfl,rfl,j,r⟩:=K5 r 'a';have h:xs.length+1+1=3:=h;obtain⟨b,d,xs,a,rfl,rfl,i,r⟩:=K5 r 'a';have h:xs.length+1+1+1=3:=h;cases r with
 |nil=>exact⟨e,g,b,c,f,d,rfl,rfl,k,j,i⟩
 |cons _ _=>exact absurd h 'b'
theorem KG{a b:Row}(h:dR a=dR b):a=b:=by
 have h1:(a.map λx:Nat=>(x:Int)).map PyData.int=(b.map λx:Nat=>(x:Int)).map PyData.int:=YR h;exact IF ((XA (λ_ _ z=>Yv z)).mp h1)
theorem xd4{n d tp c:Nat}{rows a:List Row}(h:oo n tp rows=oo d c a):n=d/\tp=c/\rows=a:=by
 have h1:=YR h;injection h1 with f h2
 injection h2 with e h3
 injection h3 with b _
 have f:=Yv f;have e:=Yv e;have b:rows.map dR=a.map dR:=YR b;exact⟨by lia,by lia,(XA (λ_ _ z=>KG z)).mp b⟩
theorem Mw{H:Hp}{v:V}{n tp:Nat}{rows:List Row}(h:aV H v (oo n tp rows)):∃t,v=.ref t/\cD H t n tp rows:=by
 cases h with
 |@tup t c _ e r=>
  cases r with
  |cons b r=>
   cases b;cases r with
   |cons h1 r=>
    cases h1;cases r with
    |cons h2 r=>
     cases r;obtain⟨p,rfl,a⟩:=TX (rows:=rows) h2;exact⟨t,rfl,p,e,a⟩
def g9(d:PyData):Prop:=∀b c a,d=.tuple [b,c,.tuple a]->a.length<=900
section
variable{mg:aq->Option aa}{base:ao}
def Mv:Sp:=λb H Q _=>∃(v:V)(d:PyData),b=[v]/\aV H v d/\g9 d/\(∀n c rows,¬Q0 d n c rows)/\∀a,aC H a->Q (.bl false) a
theorem xd5{f j l x m:ae}{X G D i J:ai}(F:aP K "is_telling" "is_telling" vf f X)(B:d_ mg)
  (hS:mg "is_size"=some (.ref j)) (FS:aP K "is_size" "is_size" yk j G) (Z:Binds K G ["thing"] []) (GS:aB P w K mg base aJ 2 j G ["thing"] L_)
  (hR:mg "are_rows"=some (.ref l)) (FR:aP K "are_rows" "are_rows" tS l D) (bR:Binds K D ["thing"] []) (GR:aB P w K mg base aJ 4 l D ["thing"] L9)
  (Y:mg "is_number"=some (.ref x)) (FN:aP K "is_number" "is_number" tL x i) (bN:Binds K i ["thing","many"] []) (GN:aB P w K mg base aJ 2 x i ["thing","many"] HM)
  (hD:mg "depths_of"=some (.ref m)) (O:aP K "depths_of" "depths_of" ym m J) (bD:Binds K J ["rows"] []):aB P w K mg base aJ 5 f X ["thing"] Mv:=by
 have GD:aB P w K mg base aJ 1 m J ["rows"] Im:=Mc O B;refine F.ok cf (λvs H Q E h=>?_) (λbp A C s H vs Q E k h=>?_)
 ·obtain⟨v,d,rfl,_⟩:=h
  rfl
 ·obtain⟨v,d,rfl,L,BC,no,q⟩:=h;have jC:aS 1 _:=k.mono 'c';have M:aS 2 _:=k.mono 'c';refine⟨_,dG (c9 (jr (i_ (il (cQ nI 'd' B.m9 ZA (aD (pv 0) (aD (pT (v:=.ty "tuple") 'd' B.tuple ZE rfl) aH)))))
    (m7 (dI qH (cQ iq 'd' B.len ZF (aD (pv 0) aH)) aR (cP _)))).pt (cm (cj js)) c_)
   (dG (m6 (pv 0) (pR rfl (e_ (dj 1 cf.nd) (e_ (dj 2 cf.nd) (e_ (dj 3 cf.nd) oz)))))
   (dG (c9 (jr (i_ (il (bZ GS M hS FS.kp Z (aD (pv 1) aH))))
    (jr (i_ (il (bZ GR k hR FR.kp bR (aD (pv 3) aH))))
    (m7 (i_ (il (bZ GN M Y FN.kp bN (aD (pv 2) (aD (cQ iq 'd' B.len ZF (aD (pv 3) aH)) aH)))))))).pt (cm (cj js)) c_)
   (cm (cj (oy tV (cO jv (bZ GD jC hD O.kp bD (aD (pv 3) aH)) (pv 2)) (pv 1) (cP _)))))),?_⟩
  refine⟨_,rfl,_,_,_,_,_,rfl,rfl,.inl L.ty,MW d,_,rfl,?_⟩;cases L with
  |@tup t S N W r=>
   refine b_ ⟨_,rfl,t,_,rfl,.inr (aQ.of W),rfl,_,rfl,?_⟩;have hl:=r.length;by_cases u:S.length=3
   rotate_left
   ·have e1:(decide (V.int ((S.length:Nat):Int)=V.int 3))=false:=Zy λz=>u (by have:=V.int.inj z;lia);rw[e1];exact cB (q H (aC.refl _))
   refine Kh (by rw[u];rfl) ?_;obtain⟨x0,x1,x2,a,b,I,rfl,rfl,r0,r1,T⟩:=xO5 u r;refine⟨_,rfl,t,_,rfl,aQ.of W,rfl,_,_,rfl,_,_,rfl,_,_,rfl,rfl,?_⟩;refine⟨_,rfl,x0,a,rfl,r0,_,rfl,?_⟩;by_cases g:ko 12 a=true
   rotate_left
   ·rw[show ko 12 a=false by simpa using g];exact cB (q H (aC.refl _))
   rw[g];refine b_ ⟨_,rfl,x2,I,rfl,T,λN e=>BC a b N (by rw[e]),λU c=>⟨_,rfl,?_⟩⟩;by_cases y:BN I=true
   rotate_left
   ·rw[show BN I=false by simpa using y];exact cB (q U c)
   rw[y];obtain⟨rows,rfl,ok⟩:=xA2 y;obtain⟨p,rfl,wE⟩:=TX (T.same c);obtain⟨bs,hp,j7,_⟩:=id wE;refine b_ ⟨_,rfl,_,rfl,p,_,rfl,.inr (aQ.of hp),x1,b,rows.length,by rw[Ze,j7];rfl,r1.same c,_,rfl,?_⟩;by_cases R:ko (rows.length+1) b=true
   rotate_left
   ·rw[show ko (rows.length+1) b=false by simpa using R];exact cB (q U c)
   exfalso;obtain⟨n,rfl,hn⟩:=Mx g;obtain⟨tp,rfl,kF⟩:=Mx R;exact no n tp rows ⟨rfl,hn,ok,by lia⟩
  |_=>exact cB (q H (aC.refl _))
theorem xo4{n tp:Nat}{rows:List Row}(h:g9 (oo n tp rows)):rows.length<=900:=by
 have:=h (.int (n:Nat)) (.int (tp:Nat)) (rows.map dR) rfl
 rwa [Ze]at this
def Uz:Sp:=λb H Q _=>∃(v:V)(d:PyData),b=[v]/\aV H v d/\g9 d/\(∀n c rows,¬Q0 d n c rows)/\∀a,aC H a->Q (.bl false) a
theorem q25{f c:ae}{e b:ai}(F:aP K "is_shape" "is_shape" tG f e)
  (x:mg "is_telling"=some (.ref c)) (p:aP K "is_telling" "is_telling" vf c b) (m:Binds K b ["thing"] []) (j:aB P w K mg base aJ 5 c b ["thing"] Mv):aB P w K mg base aJ 15 f e ["thing"] Uz:=by
 refine F.ok di (λy H Q E h=>?_) (λB A a s H y Q E k h=>?_)
 ·obtain⟨v,d,rfl,_⟩:=h
  rfl
 ·obtain⟨v,d,rfl,g,i,no,q⟩:=h;have l:aS 5 _:=k.mono 'c';refine aO ⟨_,⟨c9 (i_ (il (bZ j l x p.kp m (aD (pv 0) aH)))) (cm (cj js)) c_⟩,?_⟩;exact⟨_,m8,_,rfl,v,d,rfl,g,i,no,λr u=>⟨_,rfl,cB (q r u)⟩⟩
def Mu:Sp:=λc H Q _=>∃(v:V)(d:PyData),c=[v]/\aV H v d/\g9 d/\∀(b:Bool) H',(b=true<->∃n a rows,d=oo n a rows/\Canon n a rows)->aC H H'->Q (.bl b) H'
theorem xd6{f:ae}{k:ai}(p:aB P w K mg base aJ 15 f k ["thing"] MD)(x:aB P w K mg base aJ 15 f k ["thing"] Uz):aB P w K mg base aJ 15 f k ["thing"] Mu:=by
 refine(GC p x).imp λB H Q E h=>?_;obtain⟨v,d,rfl,l,m,q⟩:=h;by_cases j:∃n a rows,Q0 d n a rows
 ·obtain⟨n,a,rows,rfl,r,ok,s⟩:=j;obtain⟨t,rfl,u⟩:=Mw l;refine .inl ⟨t,n,a,rows,rfl,u,r,ok,xo4 m,s,λb g hb i=>q b g (hb.trans ⟨λc=>⟨n,a,rows,rfl,c⟩,λz=>?_⟩) i⟩;obtain⟨y,C,A,e,c⟩:=z;obtain⟨rfl,rfl,rfl⟩:=xd4 e;exact c
 ·refine .inr ⟨v,d,rfl,l,m,λn a rows z=>j ⟨n,a,rows,z⟩,λg i=>q false g ⟨λz=>(by cases z),λz=>?_⟩ i⟩;obtain⟨n,a,rows,e,c⟩:=z;exact(j ⟨n,a,rows,e,c.size,c.gA,c.gp⟩).elim
end
end Pr
namespace L2
open PySem PySem.Spec PyProof.Rows
theorem aP.gf{P:ah}{w:ak}{K:PySem.W.Frag}{mg:aq->Option aa}{base:ao}{x b:aq}{st:ay}{f:ae}{e:ai}{N ps:List aq}{k:Nat}{sp:Sp}(F:aP K x b st f e)(S:aE N ps (cg st))(len:∀c H Q E,sp c H Q E->c.length=ps.length)
  (m:∀(d:aa)(A:au)(a:List Env)(s:af)(H:Hp)(c:List V)(Q:VK)(E:XK),aS k (A.deeper (envOfC b (cg st) s.heap.objs.size f d))->sp c H Q E ->
   ∃t,jj (ke (fc P w) P w K mg base N b (cg st) f d A a s H E) (oA st) t/\t {nx:=λ_ h=>Q .cA h,rt:=Q} (mX N c) H):aB P w K mg base (fc P w) (k+1) f e ps sp:=by
 obtain⟨q,u,kV,j,y,v,d,B,r,rfl,g,p⟩:=F.ex;exact Tf g p S len λA a s H c Q E i l=>m d A a s H c Q E i l
theorem K4{P:ah}{w:ak}{K:PySem.W.Frag}{mg:aq->Option aa}{base:ao}{CX:lW}{k:Nat}{f:ae}{c:ai}{ps:List aq}{sp:Sp}(F:aB P w K mg base aJ k f c ps sp):aB P w K mg base CX k f c ps sp:=
 ⟨F.len,λA a s H b l j Q E d i hb m g=>Y7 (F.run A a s H b l j Q E d i hb m g) λr q h=>by
  cases r with
  |error e=>exact False.elim h
  |ok p=>cases p<;>exact h⟩
end L2
namespace Pr
open PySem L2 Qf
def fw(d:PyData):Prop:=∃n a rows,d=oo n a rows/\Canon n a rows
section
variable{mg:aq->Option aa}{base:ao}
def Hr(C:ae):Sp:=λb H Q E=>∃(v:V)(d:PyData),b=[v]/\aV H v d/\g9 d/\(fw d->∀a,aC H a->Q .cA a)/\(¬fw d->∀a,aC H a->E (.ref C) none a)
theorem xd7{f a C:ae}{j e:ai}(F:aP K "want_shape" "want_shape" uU f j)(p:mg "NoShape"=some (.ref C))(q:PySem.W.excIn K C FI "ValueError.__new__"=true)
  (B:mg "is_shape"=some (.ref a)) (l:aP K "is_shape" "is_shape" tG a e) (k:Binds K e ["thing"] []) (v:aB P w K mg base aJ 15 a e ["thing"] Mu):
  aB P w K mg base (fc P w) 16 f j ["shape"] (Hr C):=by
 refine F.gf SG (λu H Q E h=>?_) (λI A c s H u Q E m h=>?_)
 ·obtain⟨x,d,rfl,_⟩:=h
  rfl
 ·obtain⟨x,d,rfl,D,y,r,G⟩:=h;refine⟨_,cm (c9 (i_ (il (bZ v m B l.kp k (aD (pv 0) aH)))) (cm (Ug 'd' p q rfl VT (aD nE aH))) c_),?_⟩;refine⟨_,rfl,x,d,rfl,D,y,λb g hb i=>⟨_,rfl,?_⟩⟩;cases b with
  |true=>exact b_ (r (hb.mp rfl) g i)
  |false=>exact cB ⟨by decide,G (λz=>Bool.noConfusion (hb.mpr z)) g i⟩
end
end Pr
namespace L2
open PySem PySem.Spec PyProof.Rows PySem.W
def o9:ar->Bool
 |.Starred _ _=>true
 |_=>false
theorem xo5{e:ar}(h:o9 e=false)(es:List ar)(env:Env):starEach (e::es) env=(false,eval e env)::starEach es env:=by
 cases e<;>first|rfl|(exfalso;cases h)
theorem Nf{X:Cx}{e:ar}{es:List ar}{te:TE}{t:TA}(b:PE X e te)(a:PA X es t)(h:o9 e=false:=by rfl):PA X (e::es) (iN te t):=aD b a (xo5 h es X.env)
inductive cG(X:Cx):List ar->List TE->Prop where
 |nil:cG X [] []
 |cons {e:ar}{es:List ar}{te:TE}{ts:List TE}(h:PE X e te) (r:cG X es ts) (n:o9 e=false:=by rfl):cG X (e::es) (te::ts)
def fj:List TE->TA
 |[]=>hJ
 |t::a=>iN t (fj a)
theorem cG.pa{X:Cx}{es:List ar}{a:List TE}(h:cG X es a):PA X es (fj a):=by
 induction h with
 |nil=>exact aH
 |cons h r n b=>exact Nf h b n
end L2
namespace L2
open PySem
def Yl(H0:Hp)(σ:St)(R:Hp->V->Prop)(te:TE):Prop:=∀H,aC H0 H->∀Q:VK,(∀v a,aC H a->R a v->Q v a)->te σ H Q
def JQ(H0:Hp)(σ:St)(R:Hp->V->Prop):List TE->Prop
 |[]=>True
 |t::a=>Yl H0 σ R t/\JQ H0 σ R a
theorem Ii{H0:Hp}{σ:St}{R:Hp->V->Prop}(mono:∀H a v,aC H a->R H v->R a v):∀{b:List TE}{H:Hp},aC H0 H->JQ H0 σ R b->∀Q:List V->Hp->Prop,(∀c a,aC H a->c.length=b.length->(∀v∈c,R a v)->Q c a)->fj b σ H Q
 |[],H,s,_,Q,h=>h [] H (aC.refl _) rfl λv k=>nomatch k
 |t::b,H,s,y,Q,h=>y.1 H s _ λv l e j=>Ii mono (s.trans e) y.2 _ λc m f g i=>h _ _ (e.trans f) (by rw[ZD,ZD,g]) λx d=>by
   rcases ZB.mp d with rfl|d
   ·exact mono _ _ _ f j
   ·exact i x d
end L2
namespace Pr
open PySem L2
theorem TV{xs:List V}{a:Nat}(h:a<=xs.length):dk xs (some (a:Int)) none=xs.drop a:=by
 unfold dk;rw[HT.oj,HT.md,Nat.min_eq_left h,WG (by rw[Z3];exact Zg _)]
theorem RS{xs:List V}{a:Nat}(h:a<=xs.length):dk xs none (some (a:Int))=xs.take a:=by
 unfold dk;rw[HT.oj,HT.md,Nat.min_eq_left h,List.drop_zero,Nat.sub_zero]
theorem L8{H a:Hp}{p:ae}{o:HO}(h:a=H\/H p=none/\a=upd H p o):aC H a:=by
 rcases h with rfl|⟨h,rfl⟩
 ·exact aC.refl _
 ·exact bF h
end Pr
namespace L2
open PySem PySem.Spec PyProof.Rows
noncomputable def era(p:ae->Prop)(H:Hp):Hp:=open Classical in λa=>if p a then none else H a
theorem bh{p:ae->Prop}{a:ae}{H:Hp}{o:HO}:era p H a=some o<->¬p a/\H a=some o:=by
 unfold era;by_cases h:p a
 ·rw[Zr h];exact⟨(λz=>nomatch z),λz=>absurd h z.1⟩
 ·rw[Zi h];exact⟨λz=>⟨h,z⟩,λz=>z.2⟩
theorem SD{p:ae->Prop}{H:Hp}:aC (era p H) H:=λb o e=>(bh.mp e).2
theorem L7{p q:ae->Prop}{H c:Hp}(k:∀a,q a->p a)(s:∀b o,H b=some o->¬p b->c b=some o):aC (era p H) (era q c):=λb o e=>bh.mpr ⟨λz=>(bh.mp e).1 (k b z),s _ _ (bh.mp e).2 (bh.mp e).1⟩
theorem jz{p:ae->Prop}{H a:Hp}(s:aC H a):aC (era p H) (era p a):=L7 (λ_ z=>z) λb o e _=>s _ _ e
def dA(p:ae->Prop)(H:Hp):Prop:=∀a,p a->∃l,H a=some (.lst l)
def Yd(p:ae->Prop)(H0:Hp)(σ:St)(te:TE)(d:PyData):Prop:=∀H,aC H0 H->∀Q:VK,(∀v a,aC H a->aV (era p a) v d->Q v a)->te σ H Q
inductive BE(p:ae->Prop)(H0:Hp)(σ:St):List TE->List PyData->Prop
 |nil:BE p H0 σ [] []
 |cons {t:TE}{ts:List TE}{d:PyData}{ds:List PyData}(h:Yd p H0 σ t d) (r:BE p H0 σ ts ds):BE p H0 σ (t::ts) (d::ds)
section
variable{p:ae->Prop}{H0:Hp}{σ:St}
theorem SA{c:List TE}{f:List PyData}(y:BE p H0 σ c f):∀{H:Hp},aC H0 H->∀Q:List V->Hp->Prop,(∀a b,aC H b->bb (era p b) a f->Q a b)->fj c σ H Q:=by
 induction y with
 |nil=>exact λs Q h=>h [] _ (aC.refl _) .nil
 |cons y r g=>exact λs Q h=>y _ s _ λv k d j=>g (s.trans d) _ λa l e i=>h _ _ (d.trans e) (.cons (j.same (jz e)) i)
theorem AA{H:Hp}{b:ae}{o:HO}(a:dA p H0)(s:aC H0 H)(hb:H b=none):era p (upd H b o) b=some o:=bh.mpr ⟨(λz=>by obtain⟨l,e⟩:=a b z;rw[s _ _ e]at hb;cases hb),aX⟩
theorem iQ(i:Int):Yd p H0 σ (tC (.int i)) (.int i):=λH s Q q=>q _ _ (aC.refl _) (.int i)
theorem RR(x:aq):Yd p H0 σ (tC (.str x)) (.str x):=λH s Q q=>q _ _ (aC.refl _) (.str x)
theorem SW(b:Bool):Yd p H0 σ (tC (.bl b)) (.bool b):=λH s Q q=>q _ _ (aC.refl _) (.bl b)
theorem KD:Yd p H0 σ (tC .cA) .none:=λH s Q q=>q _ _ (aC.refl _) .cA
theorem cW{i:Nat}{v:V}{d:PyData}(e:σ[i]?=some (some v))(h:aV (era p H0) v d):Yd p H0 σ (eh i) d:=λH s Q q=>⟨v,e,q _ _ (aC.refl _) (h.same (jz s))⟩
theorem RQ(i:Int):Yd p H0 σ (K9 (rU λi=>.int (-i)) (tC (.int i))) (.int (-i)):=λH s Q q=>⟨i,rfl,q _ _ (aC.refl _) (.int _)⟩
theorem AM{H:Hp}{v:V}{c:List PyData}(h:aV H v (.tuple c)):∃a b,v=.ref a/\H a=some (.tup b)/\bb H b c:=by
 cases h with
 |tup h r=>exact⟨_,_,rfl,h,r⟩
theorem MV{H:Hp}:∀{d c:List V}{a b:List PyData},bb H d a->bb H c b->bb H (d++c) (a++b)
 |_,_,_,_,.nil,h=>h
 |_,_,_,_,.cons h r,g=>.cons h (MV r g)
theorem VA{H:Hp}:∀(k:Nat){b:List V}{a:List PyData},bb H b a->bb H (b.drop k) (a.drop k)
 |0,_,_,h=>h
 |_+1,_,_,.nil=>.nil
 |k+1,_,_,.cons _ r=>VA k r
def Hs(p:ae->Prop)(R:PyData->Prop):Hp->V->Prop:=λH v=>∃d,aV (era p H) v d/\R d
theorem Dk{R:PyData->Prop}:∀H a v,aC H a->Hs p R H v->Hs p R a v:=λH a v s ⟨d,h,r⟩=>⟨d,h.same (jz s),r⟩
theorem ik{R:PyData->Prop}{te:TE}{d:PyData}(y:Yd p H0 σ te d)(r:R d):Yl H0 σ (Hs p R) te:=λH s Q q=>y H s Q λv b a h=>q v b a ⟨d,h,r⟩
theorem xA7(a:dA p H0):Yd p H0 σ RY (.dict []):=λH s Q q b hb=>q _ _ (bF hb) (.JK (AA a s hb))
theorem AV(f:dA p H0){c:List TE}{a:List PyData}(y:BE p H0 σ c a)(h:a.length<=sizeLine):Yd p H0 σ (gH (fj c)) (.tuple a):=λH s Q q=>SA y s _ λi g d e=>⟨by rw[e.length];exact h,λb hb=>q _ _ (d.trans (bF hb)) (.tup (AA f (s.trans d) hb) (e.same (jz (bF hb))))⟩
theorem RP(f:dA p H0){c:List TE}{a:List PyData}(y:BE p H0 σ c a)(h:a.length<=sizeLine):Yd p H0 σ (p_ (fj c)) (.list a):=λH s Q q=>SA y s _ λi g d e=>⟨by rw[e.length];exact h,λb hb=>q _ _ (d.trans (bF hb)) (.lst (AA f (s.trans d) hb) (e.same (jz (bF hb))))⟩
theorem IE(a:dA p H0){H:Hp}(s:aC H0 H){b:ae}{xs:List V}(h:H b=some (.tup xs)):era p H b=some (.tup xs):=bh.mpr ⟨(λz=>by obtain⟨l,e⟩:=a b z;rw[s _ _ e]at h;cases h),h⟩
theorem uR(u:dA p H0){k tb:TE}{a b:List PyData}(A:Yd p H0 σ k (.tuple a))(F:Yd p H0 σ tb (.tuple b))(h:a.length+b.length<=sizeLine):
  Yd p H0 σ (nh (λx y H Q=>∃a b f d,x=.ref a/\y=.ref b/\H a=some (.tup f)/\H b=some (.tup d)/\f.length+d.length<=sizeLine/\∀p e,e p=some (.tup (f++d))->(e=H\/H p=none/\e=upd H p (.tup (f++d)))->Q (.ref p) e) k tb) (.tuple (a++b)):=λH s Q q=>A H s _ λI w i v=>F w (s.trans i) _ λG E j D=>by
 obtain⟨r,f,rfl,h1,m⟩:=AM (v.same (jz j));obtain⟨C,d,rfl,h2,l⟩:=AM D;refine⟨r,C,f,d,rfl,rfl,(bh.mp h1).2,(bh.mp h2).2,by rw[m.length,l.length];exact h,λc e B o=>?_⟩;have g:aC E e:=Pr.L8 o;exact q _ _ ((i.trans j).trans g) (.tup (IE u (((s.trans i).trans j).trans g) B) (MV (m.same (jz g)) (l.same (jz g))))
theorem Sz(g:dA p H0){K:PySem.W.Frag}{c:TE}{a:List PyData}(h:Yd p H0 σ c (.tuple a)):
  Yd p H0 σ (Av (fu K) (iN c hJ)) (.list a):=λH s Q q=>h H s _ λl k d i=>by
 obtain⟨e,j,rfl,h1,f⟩:=AM i;exact⟨e,j,rfl,.inr (aQ.of (bh.mp h1).2),λb hb=>q _ _ (d.trans (bF hb)) (.lst (AA g (s.trans d) hb) (f.same (jz (bF hb))))⟩
theorem A7{X:Cx}{a:ar}{c:TE}{e:Nat}{b:aA}(f:PE X a c)(d:o9 a=false:=by rfl):PE X (.Tuple [a] e b) (gH (fj [c])):=kq (@cG.pa _ _ _ (.cons f .nil d))
theorem BM{X:Cx}{a b:ar}{d tb:TE}{e:Nat}{c:aA}(h:PE X a d)(hb:PE X b tb)(f:o9 a=false:=by rfl)(g:o9 b=false:=by rfl):PE X (.Tuple [a,b] e c) (gH (fj [d,tb])):=kq (@cG.pa _ _ _ (.cons h (.cons hb .nil g) f))
theorem i9{X:Cx}{a b c:ar}{e tb f:TE}{g:Nat}{d:aA}(k:PE X a e)(hb:PE X b tb)(hc:PE X c f)(i:o9 a=false:=by rfl)(j:o9 b=false:=by rfl)(h:o9 c=false:=by rfl):PE X (.Tuple [a,b,c] g d) (gH (fj [e,tb,f])):=kq (@cG.pa _ _ _ (.cons k (.cons hb (.cons hc .nil h) j) i))
theorem Gz{X:Cx}{a b c d:ar}{f tb h g:TE}{j:Nat}{e:aA}(q:PE X a f)(hb:PE X b tb)(hc:PE X c h)(i:PE X d g)(l:o9 a=false:=by rfl)(m:o9 b=false:=by rfl)(k:o9 c=false:=by rfl)(nd:o9 d=false:=by rfl):PE X (.Tuple [a,b,c,d] j e) (gH (fj [f,tb,h,g])):=kq (@cG.pa _ _ _ (.cons q (.cons hb (.cons hc (.cons i .nil nd) k) m) l))
theorem A6(c:dA p H0){b:TE}{a:PyData}(d:Yd p H0 σ b a):Yd p H0 σ (gH (fj [b])) (.tuple [a]):=AV c (.cons d .nil) (by show 1<=sizeLine;decide)
theorem xO6(e:dA p H0){c tb:TE}{a b:PyData}(f:Yd p H0 σ c a)(d:Yd p H0 σ tb b):Yd p H0 σ (gH (fj [c,tb])) (.tuple [a,b]):=AV e (.cons f (.cons d .nil)) (by show 2<=sizeLine;decide)
theorem i8(f:dA p H0){d tb e:TE}{a b c:PyData}(g:Yd p H0 σ d a)(h:Yd p H0 σ tb b)(i:Yd p H0 σ e c):Yd p H0 σ (gH (fj [d,tb,e])) (.tuple [a,b,c]):=AV f (.cons g (.cons h (.cons i .nil))) (by show 3<=sizeLine;decide)
theorem Gy(i:dA p H0){e tb g f:TE}{a b c d:PyData}(j:Yd p H0 σ e a)(k:Yd p H0 σ tb b)(l:Yd p H0 σ g c)(h:Yd p H0 σ f d):Yd p H0 σ (gH (fj [e,tb,g,f])) (.tuple [a,b,c,d]):=AV i (.cons j (.cons k (.cons l (.cons h .nil)))) (by show 4<=sizeLine;decide)
structure kj(p:ae->Prop)(R:PyData->Prop)(H0:Hp)(k:Nat)(D:ae)(H:Hp):Prop where
 ex:∃xs H1,aC H0 H1/\H1 D=none/\aC H1 H/\H D=some (.lst xs)/\xs.length=k/\∀x∈xs,Hs p R H1 x
theorem kj.same{R:PyData->Prop}{k:Nat}{D:ae}{H:Hp}(b:kj p R H0 k D H):aC H0 H:=by
 obtain⟨a,c,s,_,t,_⟩:=b;exact s.trans t
theorem xo8{R:PyData->Prop}{k m:Nat}{D E:ae}{i a:Hp}{vs:List V}(b:kj p R H0 k D i)(e:aC i a)(l3:vs.length=m)(s:∀v∈vs,Hs p R a v)(d:a E=none):
  ∃c,upd a E (.lst vs) D=some (.lst c)/\c.length=k/\∀G,upd a E (.lst vs) G=none->kj p R H0 (k+m) G (upd (upd a E (.lst vs)) G (.lst (c++vs))):=by
 obtain⟨c,y,r,w,j,l,f,q⟩:=b;refine⟨c,dZ (e _ _ l) d,f,λG g=>⟨c++vs,upd a E (.lst vs),((r.trans j).trans e).trans (bF d),g,bF g,aX,by rw[Zk,f,l3],λx u=>?_⟩⟩;rcases Z8.mp u with h|h
 ·exact Dk _ _ _ ((j.trans e).trans (bF d)) (q x h)
 ·exact Dk _ _ _ (bF d) (s x h)
theorem xA8{R:PyData->Prop}{a:List TE}(y:JQ H0 σ (Hs p R) a)(i:a.length<=100)(Q:VK)(q:∀D c,kj p R H0 a.length D c->Q (.ref D) c):p_ (fj a) σ H0 Q:=
 Ii Dk (aC.refl _) y _ λh e f d g=>⟨by rw[d];exact Ys (oH 'a'),λD b=>q D _ ⟨h,e,f,b,bF b,aX,d,g⟩⟩
theorem ID{R:PyData->Prop}{a:List TE}{i k:Nat}{D:ae}{d:Hp}(b:kj p R H0 k D d)(e:σ[i]?=some (some (.ref D)))(y:JQ d σ (Hs p R) a)(x:k+a.length<=100)(Q:VK)(q:∀D f,kj p R H0 (k+a.length) D f->Q (.ref D) f):
  nh CC (eh i) (p_ (fj a)) σ d Q:=by
 refine⟨_,e,Ii Dk (aC.refl _) y _ λs w u c r=>⟨by rw[c];exact Ys (oH 'a'),λE l=>?_⟩⟩;obtain⟨v,j,g,h⟩:=xo8 b u c r l;exact⟨D,E,v,s,rfl,rfl,j,aX,by rw[g,c];exact Ys (oH 'a'),λG m=>q G _ (h G m)⟩
theorem Hq{te:TE}{i:Nat}{rest:TS}{k:Ends}{H:Hp}(h:te σ H λv a=>rest k (σ.set i (some v)) a):p9 (lu te (eZ i)) rest k σ H:=h
theorem qE{f:St->Hp->Prop}{σ':St}{H:Hp}(e:σ=σ')(h:f σ' H):f σ H:=by rw[e];exact h
theorem xJ4(g:dA p H0){R:PyData->Prop}{k:Nat}{D:ae}{c:Hp}(b:kj p R H0 k D c):dA (λa=>p a\/a=D) c:=by
 obtain⟨r,j,d,q,h,f,i,m⟩:=b;intro a z;rcases z with z|rfl
 ·obtain⟨l,e⟩:=g a z;exact⟨l,(d.trans h) _ _ e⟩
 ·exact⟨_,f⟩
theorem xA9{R:PyData->Prop}{k:Nat}{D:ae}{j c:Hp}{v:V}{d:PyData}(b:kj p R H0 k D j)(i:aC j c)(d3:aV (era (λa=>p a\/a=D) c) v d)(r:R d):∃f,c D=some (.lst f)/\f.length=k/\kj p R H0 (k+1) D (upd c D (.lst (f++[v]))):=by
 obtain⟨f,m,q,w,y,u,g,s⟩:=b;have l:aC m (era (λa=>a=D) c):=λa o e=>bh.mpr ⟨(λz=>by rw[z,w]at e;cases e),(y.trans i) _ _ e⟩;refine⟨f,i _ _ u,g,⟨f++[v],era (λa=>a=D) c,q.trans l,?_,λa o e=>?_,aX,by rw[Zk,g];rfl,λx A=>?_⟩⟩
 ·cases e:era (λa=>a=D) c D with
  |none=>rfl
  |some o=>exact absurd rfl (bh.mp e).1
 ·rw[bo (bh.mp e).1];exact(bh.mp e).2
 ·rcases Z8.mp A with h|h
  ·exact Dk _ _ _ l (s x h)
  ·have:x=v:=by simpa using h
   subst this;exact⟨d,d3.same λa o e=>bh.mpr ⟨λz=>(bh.mp e).1 (.inl z),bh.mpr ⟨λz=>(bh.mp e).1 (.inr z),(bh.mp e).2⟩⟩,r⟩
theorem xo9{R:PyData->Prop}{k i:Nat}{e D:ae}{H g:Hp}{o:HO}(b:kj (λa=>a=e) R H0 k D H)(f:H0 e=some o)(but:∀b o,H b=some o->b≠e->g b=some o)(w:i<k):∃c x d,g D=some (.lst c)/\c[i]?=some x/\aV (era (λa=>a=e) g) x d/\R d:=by
 obtain⟨c,v,m,h,s,q,u,l⟩:=b;have r:D≠e:=λz=>by rw[z,m _ _ f]at h;cases h
 have j:i<c.length:=by lia
 obtain⟨d,h1,h2⟩:=l c[i] (YY j);exact⟨c,c[i],d,but _ _ q r,by simp[j],h1.same ((jz s).trans (L7 (λ_ z=>z) but)),h2⟩
end
end L2
namespace Qf
inductive Tr
 |z|o|nd (a b c d:Tr) deriving DecidableEq
namespace Tr
def kids:Tr->List Tr
 |nd a b c d=>[a,b,c,d]
 |_=>[]
def dep:Tr->Nat
 |nd a b c d=>1+mx [dep a,dep b,dep c,dep d]
 |_=>0
def Red:Tr->Prop
 |nd a b c d=>¬(a=z/\b=z/\c=z/\d=z)/\¬(a=o/\b=o/\c=o/\d=o)/\Red a/\Red b/\Red c/\Red d
 |_=>True
def post:Tr->List Tr->List Tr
 |nd a b c d,e=>if nd a b c d∈e then e else post d (post c (post b (post a e)))++[nd a b c d]
 |_,e=>e
def In(L:List Tr)(t:Tr):Prop:=t=z\/t=o\/t∈L
theorem In.app{L s:List Tr}{t:Tr}(h:In L t):In (L++s) t:=h.imp id λh=>h.imp id λh=>YO _ h
structure Ord(L:List Tr):Prop where
 nd:L.Nodup
 ch:∀(i:Nat) t,L[i]?=some t->(∃a b c d,t=.nd a b c d)/\∀s∈kids t,s=z\/s=o\/∃j:Nat,j<i/\L[j]?=some s
theorem lI:Ord []:=⟨XZ,λi t h=>by simp at h⟩
theorem CI:∀(t:Tr)(e:List Tr),∃s,post t e=e++s
 |z,e=>⟨[],by simp[post]⟩
 |o,e=>⟨[],by simp[post]⟩
 |nd a b c d,e=>by
  unfold post;split
  ·exact⟨[],by simp⟩
  ·obtain⟨f,h1⟩:=CI a e;obtain⟨h,h2⟩:=CI b (post a e);obtain⟨i,j⟩:=CI c (post b (post a e));obtain⟨g,k⟩:=CI d (post c (post b (post a e)));exact⟨f++h++i++g++[nd a b c d],by rw[k,j,h2,h1];simp⟩
theorem In.post{L:List Tr}{t:Tr}(s:Tr)(h:In L t):In (post s L) t:=by
 obtain⟨u,e⟩:=CI s L;rw[e];exact h.app
theorem vc:∀(t:Tr)(e:List Tr)(s:Tr),s∈post t e->s∈e\/sizeOf s<=sizeOf t
 |z,e,s,h=>.inl h
 |o,e,s,h=>.inl h
 |nd a b c d,e,s,h=>by
  unfold post at h;split at h
  ·exact .inl h
  ·have sz:sizeOf (nd a b c d)=1+sizeOf a+sizeOf b+sizeOf c+sizeOf d:=by simp
   rcases Z8.mp h with h|h
   ·rcases vc d _ s h with h|h
    ·rcases vc c _ s h with h|h
     ·rcases vc b _ s h with h|h
      ·rcases vc a _ s h with h|h
       ·exact .inl h
       ·exact .inr 'a'
      ·exact .inr 'a'
     ·exact .inr 'a'
    ·exact .inr 'a'
   ·have:s=nd a b c d:=by simpa using h
    rw[this];exact .inr (Zg _)
theorem xe3{a b c d:Tr}{e:List Tr}(h:nd a b c d∉e):nd a b c d∉post d (post c (post b (post a e))):=λh2=>by
 have sz:sizeOf (nd a b c d)=1+sizeOf a+sizeOf b+sizeOf c+sizeOf d:=by simp
 rcases vc d _ _ h2 with h2|h2
 ·rcases vc c _ _ h2 with h2|h2
  ·rcases vc b _ _ h2 with h2|h2
   ·rcases vc a _ _ h2 with h2|h2
    ·exact h h2
    ·lia
   ·lia
  ·lia
 ·lia
theorem AL:∀(t:Tr)(e:List Tr),Ord e->Ord (post t e)/\In (post t e) t
 |z,e,h=>⟨h,.inl rfl⟩
 |o,e,h=>⟨h,.inr (.inl rfl)⟩
 |nd a b c d,e,h=>by
  unfold post;split
  ·rename_i f;exact⟨h,.inr (.inr f)⟩
  ·rename_i f;obtain⟨D,m⟩:=AL a e h;obtain⟨w,p⟩:=AL b _ D;obtain⟨A,l⟩:=AL c _ w;obtain⟨r,B⟩:=AL d _ A;have m:=((m.post b).post c).post d;have p:=(p.post c).post d;have l:=l.post d;have v:=xe3 f;generalize post d (post c (post b (post a e)))=L at r m p l B v;refine⟨⟨?_,?_⟩,.inr (.inr 'b')⟩
   ·rw[Yk];exact⟨r.nd,by simp,λx E y I e=>v (by
     have:y=nd a b c d:=by simpa using I
     rw[<- this,<- e];exact E)⟩
   ·intro i t k;by_cases G:i<L.length
    ·rw[Zm G]at k;obtain⟨h1,h2⟩:=r.ch i t k;refine⟨h1,λs q=>(h2 s q).imp id λh=>h.imp id λ⟨j,g,e⟩=>⟨j,g,?_⟩⟩;rw[Zm 'a'];exact e
    ·have u:=(cx k).1;rw[Zk]at u;have H:i=L.length:=by simp at u;lia
     subst H;have F:t=nd a b c d:=by simpa using k.symm
     subst F;refine⟨⟨a,b,c,d,rfl⟩,λs q=>?_⟩;have C:In L s:=by
      have:s=a\/s=b\/s=c\/s=d:=by simpa[kids]using q
      rcases this with rfl|rfl|rfl|rfl<;>assumption
     refine C.imp id λh=>h.imp id λf=>?_;obtain⟨j,g,e⟩:=ZM.mp f;exact⟨j,g,by rw[Zm g,Zd g,e]⟩
def name(L:List Tr):Tr->Nat
 |z=>0
 |o=>1
 |t=>L.idxOf t+2
def rowsOf(L:List Tr):List Row:=L.map λt=>(kids t).map (name L)
theorem Dj(L:List Tr)(a b c d:Tr):name L (.nd a b c d)=L.idxOf (.nd a b c d)+2:=rfl
theorem iJ{L:List Tr}(h:Ord L){i:Nat}{t:Tr}(e:L[i]?=some t):name L t=i+2:=by
 obtain⟨⟨a,b,c,d,rfl⟩,_⟩:=h.ch i t e;rw[Dj];congr 1;have g:=(cx e).1;have f:=(cx e).2;rw[<- f];exact h.nd.idxOf_getElem i g
theorem dH{L:List Tr}(h:Ord L){t:Tr}(c:In L t):(t=z/\name L t=0)\/(t=o/\name L t=1)\/∃i:Nat,L[i]?=some t/\name L t=i+2:=by
 rcases c with rfl|rfl|b
 ·exact .inl ⟨rfl,rfl⟩
 ·exact .inr (.inl ⟨rfl,rfl⟩)
 ·obtain⟨j,d,e⟩:=ZM.mp b;have a:L[j]?=some t:=by rw[Zd d,e]
  exact .inr (.inr ⟨j,a,iJ h a⟩)
theorem xp0{L:List Tr}(h:Ord L){s t:Tr}(hs:In L s)(c:In L t)(e:name L s=name L t):s=t:=by
 rcases dH h hs with⟨rfl,d⟩|⟨rfl,d⟩|⟨i,f,d⟩
 ·rcases dH h c with⟨rfl,a⟩|⟨rfl,a⟩|⟨j,b,a⟩
  ·rfl
  ·lia
  ·lia
 ·rcases dH h c with⟨rfl,a⟩|⟨rfl,a⟩|⟨j,b,a⟩
  ·lia
  ·rfl
  ·lia
 ·rcases dH h c with⟨rfl,a⟩|⟨rfl,a⟩|⟨j,b,a⟩
  ·lia
  ·lia
  ·have:i=j:=by lia
   subst this;rw[f]at b;exact Zu b
theorem dw{L s:List Tr}{t:Tr}(h:In L t)(hz:Ord L):name (L++s) t=name L t:=by
 rcases dH hz h with⟨rfl,_⟩|⟨rfl,_⟩|⟨i,e,_⟩
 ·rfl
 ·rfl
 ·obtain⟨⟨a,b,c,d,rfl⟩,_⟩:=hz.ch i t e;rw[Dj,Dj,Vh,Zr (Zo e)]
theorem yw{L:List Tr}(h:Ord L){i:Nat}{t s:Tr}(e:L[i]?=some t)(hs:s∈kids t):In L s/\name L s<i+2:=by
 rcases(h.ch i t e).2 s hs with rfl|rfl|⟨j,b,a⟩
 ·exact⟨.inl rfl,by show 0<_;lia⟩
 ·exact⟨.inr (.inl rfl),by show 1<_;lia⟩
 ·exact⟨.inr (.inr (Zo a)),by rw[iJ h a];lia⟩
theorem bc(L:List Tr):(rowsOf L).length=L.length:=by simp[rowsOf]
theorem cN{L:List Tr}{i:Nat}{t:Tr}(e:L[i]?=some t):(rowsOf L)[i]?=some ((kids t).map (name L)):=by
 unfold rowsOf;rw[Zf,e];rfl
theorem LG{L:List Tr}{i:Nat}{r:Row}(e:(rowsOf L)[i]?=some r):∃t,L[i]?=some t/\r=(kids t).map (name L):=by
 unfold rowsOf at e;rw[Zf]at e;obtain⟨t,h1,h2⟩:=Zp.mp e;exact⟨t,h1,h2.symm⟩
theorem hV{L:List Tr}(h:Ord L):cz (rowsOf L):=λp r g=>by
 obtain⟨t,e,rfl⟩:=LG g;obtain⟨⟨a,b,c,d,rfl⟩,_⟩:=h.ch p t e;refine⟨rfl,λx f=>?_⟩;obtain⟨s,i,rfl⟩:=ZV.mp f;exact(yw h e i).2
theorem LR{L:List Tr}(h:Ord L):∀{k l:List Tr},(∀s∈k,In L s)->(∀s∈l,In L s)->k.map (name L)=l.map (name L)->k=l
 |[],[],_,_,_=>rfl
 |[],_::_,_,_,e=>by simp at e
 |_::_,[],_,_,e=>by simp at e
 |a::k,b::l,h1,h2,e=>by
  simp only[ZL,XG]at e;rw[xp0 h (h1 a Zw) (h2 b Zw) e.1,LR h (λs c=>h1 s (Zn _ c)) (λs c=>h2 s (Zn _ c)) e.2]
theorem TU{s t:Tr}(hs:∃a b c d,s=.nd a b c d)(f:∃a b c d,t=.nd a b c d)(e:kids s=kids t):s=t:=by
 obtain⟨a,b,c,d,rfl⟩:=hs;obtain⟨g,h,j,i,rfl⟩:=f;simpa[kids]using e
theorem gN{L:List Tr}(h:Ord L):(rowsOf L).Nodup:=by
 rw[dr];intro i j f c e;rw[bc]at c;have b:L[i]?=some L[i]:=Zd 'a';have a:L[j]?=some L[j]:=Zd c;rw[cN b,cN a]at e;have:=TU (h.ch i _ b).1 (h.ch j _ a).1 (LR h (λs d=>(yw h b d).1) (λs d=>(yw h a d).1) (Zu e));have h2:=dr.mp h.nd i j f c;rw[b,a]at h2;exact h2 (by rw[this])
end Tr
open Tr
def tr(rows:List Row):Nat->Nat->Tr
 |0,x=>if x=1 then .o else .z
 |d+1,x=>if x=0 then .z else if x=1 then .o else .nd (tr rows d ((rows.getD (x-2) []).getD 0 0)) (tr rows d ((rows.getD (x-2) []).getD 1 0)) (tr rows d ((rows.getD (x-2) []).getD 2 0)) (tr rows d ((rows.getD (x-2) []).getD 3 0))
theorem Di(rows:List Row)(d:Nat):tr rows d 0=.z:=by cases d<;>rfl
theorem C5(rows:List Row)(d:Nat):tr rows d 1=.o:=by cases d<;>rfl
theorem Az{r:Row}(h:r.length=4):∃a b c d,r=[a,b,c,d]:=by
 match r,h with
 |[a,b,c,d],_=>exact⟨a,b,c,d,rfl⟩
theorem KC{rows:List Row}{d p a b c e:Nat}(f:rows[p]?=some [a,b,c,e]):tr rows (d+1) (p+2)=.nd (tr rows d a) (tr rows d b) (tr rows d c) (tr rows d e):=by
 have:rows.getD p []=[a,b,c,e]:=by rw[Zt,f];rfl
 show(if p+2=0 then _ else if p+2=1 then _ else _)=_;rw[Zi 'a',Zi 'a',show p+2-2=p by lia,this]
 rfl
theorem mj{rows:List Row}(ok:cz rows){x:Nat}(i:x<rows.length+2)(h:¬x<2):∃p a b c d,x=p+2/\rows[p]?=some [a,b,c,d]:=by
 have g:x-2<rows.length:=by lia
 have f:rows[x-2]?=some rows[x-2]:=Zd g;obtain⟨a,b,c,d,e⟩:=Az (ok _ _ f).1;exact⟨x-2,a,b,c,d,by lia,by rw[f,e]⟩
theorem HL{rows:List Row}(ok:cz rows):∀(d f x:Nat),dp rows x<=d->dp rows x<=f->x<rows.length+2->tr rows d x=tr rows f x:=by
 intro d
 induction d with
 |zero=>
  intro f x h1 h2 h;have g:=uS ok h h1
  match x,g with
  |0,_=>rw[Di,Di]
  |1,_=>rw[C5,C5]
 |succ d i=>
  intro f x h1 h2 h;by_cases g:x<2
  ·match x,g with
   |0,_=>rw[Di,Di]
   |1,_=>rw[C5,C5]
  ·obtain⟨p,a,b,c,e,rfl,j⟩:=mj ok h g
   match f,h2 with
   |0,h2=>exact absurd (uS ok h h2) g
   |f+1,h2=>
    have q:=λy (l:y∈[a,b,c,e])=>yi ok j h1 l;have k:=λy (l:y∈[a,b,c,e])=>yi ok j h2 l;rw[KC j,KC j,i f a (q a 'b').2 (k a 'b').2 (q a 'b').1,i f b (q b 'b').2 (k b 'b').2 (q b 'b').1,i f c (q c 'b').2 (k c 'b').2 (q c 'b').1,i f e (q e 'b').2 (k e 'b').2 (q e 'b').1]
def T(rows:List Row)(x:Nat):Tr:=tr rows (dp rows x) x
theorem iP(rows:List Row):T rows 0=.z:=Di _ _
theorem iH(rows:List Row):T rows 1=.o:=C5 _ _
theorem km{rows:List Row}(ok:cz rows){p a b c e:Nat}(f:rows[p]?=some [a,b,c,e]):T rows (p+2)=.nd (T rows a) (T rows b) (T rows c) (T rows e):=by
 obtain⟨d,g⟩:∃d,dp rows (p+2)=d+1:=⟨_,by rw[pN ok f];exact Vs _ _⟩;have q:=λy (h:y∈[a,b,c,e])=>yi ok f (Wv g) h;unfold T;rw[g,KC f,HL ok d _ a (q a 'b').2 (Zg _) (q a 'b').1,HL ok d _ b (q b 'b').2 (Zg _) (q b 'b').1,HL ok d _ c (q c 'b').2 (Zg _) (q c 'b').1,HL ok d _ e (q e 'b').2 (Zg _) (q e 'b').1]
theorem xO7{rows:List Row}(ok:cz rows)(nd:rows.Nodup):∀(d x y:Nat),dp rows x<=d->x<rows.length+2->y<rows.length+2->T rows x=T rows y->x=y:=by
 intro d;have i:∀x y,x<2->y<rows.length+2->T rows x=T rows y->x=y:=λx y l g e=>by
  by_cases m:y<2
  ·match x,y,l,m with
   |0,0,_,_=>rfl
   |1,1,_,_=>rfl
   |0,1,_,_=>rw[iP,iH]at e;cases e
   |1,0,_,_=>rw[iP,iH]at e;cases e
  ·obtain⟨p,a,b,c,f,rfl,j⟩:=mj ok g m;rw[km ok j]at e
   match x,l with
   |0,_=>rw[iP]at e;cases e
   |1,_=>rw[iH]at e;cases e
 induction d with
 |zero=>exact λx y h s g e=>i x y (uS ok s h) g e
 |succ d v=>
  intro x y h s g e;by_cases l:x<2
  ·exact i x y l g e
  ·by_cases m:y<2
   ·exact(i y x m s e.symm).symm
   ·obtain⟨p,a,b,c,f,rfl,j⟩:=mj ok s l;obtain⟨u,B,C,A,w,rfl,k⟩:=mj ok g m;rw[km ok j,km ok k]at e;have q:=λy (g:y∈[a,b,c,f])=>yi ok j h g;have r:∀y∈[B,C,A,w],y<rows.length+2:=λy g=>by
     have:=(ok _ _ k).2 y g;have:=(cx k).1;lia
    injection e with e1 e2 e3 e4
    have h1:=v a B (q a 'b').2 (q a 'b').1 (r B 'b') e1;have h2:=v b C (q b 'b').2 (q b 'b').1 (r C 'b') e2;have E:=v c A (q c 'b').2 (q c 'b').1 (r A 'b') e3;have D:=v f w (q f 'b').2 (q f 'b').1 (r w 'b') e4;subst h1 h2 E D;have:p=u:=by
     rcases Vi p u with z|z|z
     ·exact absurd (j.trans k.symm) (dr.mp nd p u z (cx k).1)
     ·exact z
     ·exact absurd (k.trans j.symm) (dr.mp nd u p z (cx j).1)
    rw[this]
def oY(rows:List Row)(p:Nat):Tr:=T rows (p+2)
theorem xB0{rows:List Row}(ok:cz rows)(nd:rows.Nodup){e:List Nat}(b:dX rows e){p:Nat}(d:p<rows.length):oY rows p∈e.map (oY rows)<->p∈e:=by
 constructor
 ·intro h;obtain⟨q,a,c⟩:=ZV.mp h;have:=xO7 ok nd _ (q+2) (p+2) (Zg _) (by have:=b.lt q a;lia) 'a' c;have:q=p:=by lia
  rw[<- this];exact a
 ·exact λh=>ZV.mpr ⟨p,h,rfl⟩
theorem xp1{rows:List Row}(ok:cz rows)(nd:rows.Nodup):∀(d:Nat)(e:List Nat)(x:Nat),dX rows e->x<rows.length+2->dp rows x<=d->(cu rows d e x).map (oY rows)=post (T rows x) (e.map (oY rows)):=by
 intro d
 induction d with
 |zero=>
  intro e x i m l;have h:=uS ok m l
  match x,h with
  |0,_=>rw[iP];rfl
  |1,_=>rw[iH];rfl
 |succ d j=>
  intro e x i m l;by_cases h:x<2
  ·have:cu rows (d+1) e x=e:=by
    show(if x<2\/x-2∈e then e else _)=e;rw[Zr (.inl h)]
   rw[this]
   match x,h with
   |0,_=>rw[iP];rfl
   |1,_=>rw[iH];rfl
  ·obtain⟨p,a,b,c,f,rfl,g⟩:=mj ok m h;have I:=(cx g).1;have u:=xB0 ok nd i I;have G:rows.getD p []=[a,b,c,f]:=by rw[Zt,g];rfl
   have s:oY rows p=.nd (T rows a) (T rows b) (T rows c) (T rows f):=km ok g;rw[km ok g];show(if p+2<2\/p+2-2∈e then e else(rows.getD (p+2-2) []).foldl (cu rows d) e++[p+2-2]).map (oY rows)=(if _∈e.map (oY rows)then _ else _);rw[show p+2-2=p by lia,<- s,G];by_cases k:p∈e
   ·rw[Zr (.inr k),Zr (u.mpr k)]
   ·rw[Zi (by rintro(z|z);lia;exact k z),Zi (λz=>k (u.mp z))];have q:=λy (K:y∈[a,b,c,f])=>yi ok g l K;obtain⟨A,C⟩:=q a 'b';obtain⟨w,D⟩:=q b 'b';obtain⟨v,F⟩:=q c 'b';obtain⟨J,r⟩:=q f 'b';have B:=(pU ok d e a i A C).1;have E:=(pU ok d _ b B w D).1;have H:=(pU ok d _ c E v F).1;show(cu rows d (cu rows d (cu rows d (cu rows d e a) b) c) f++[p]).map (oY rows)=_;rw[ZW,j _ f H J r,j _ c E v F,j _ b B w D,j _ a i A C,s];show _++[oY rows p]=_;rw[s]
theorem q28{n top:Nat}{rows:List Row}(c:Canon n top rows):rows=rowsOf (post (T rows top) [])/\top=name (post (T rows top) []) (T rows top):=by
 have h:=xp1 c.gA c.unlike n [] top (vg rows) c.gp c.deep;rw[c.ends]at h;have m:Ord (post (T rows top) [])/\In (post (T rows top) []) (T rows top):=AL _ _ lI;have k:post (T rows top) []=(List.range rows.length).map (oY rows):=h.symm;obtain⟨l,u⟩:=m;generalize post (T rows top) []=L at l u k;have i:∀p,p<rows.length->L[p]?=some (oY rows p):=λp j=>by
  rw[k,Zf,Y5 j];rfl
 have x:L.length=rows.length:=by rw[k];simp
 have d:∀q,q<rows.length+2->name L (T rows q)=q:=λq A=>by
  by_cases w:q<2
  ·match q,w with
   |0,_=>rw[iP];rfl
   |1,_=>rw[iH];rfl
  ·have:=iJ l (i (q-2) 'a');unfold oY at this;rw[show q-2+2=q by lia]at this;exact this
 refine⟨?_,(d top c.gp).symm⟩;refine XV λp=>?_;by_cases j:p<rows.length
 ·have g:rows[p]?=some rows[p]:=Zd j;obtain⟨a,b,e,f,r⟩:=Az (c.gA p _ g).1;rw[r]at g;rw[g,cN (i p j)];have s:oY rows p=.nd (T rows a) (T rows b) (T rows e) (T rows f):=km c.gA g;have lt:∀y∈[a,b,e,f],y<rows.length+2:=λy v=>by
   have:=(c.gA _ _ g).2 y v;lia
  rw[s];show some [a,b,e,f]=some [name L (T rows a),name L (T rows b),name L (T rows e),name L (T rows f)];rw[d a (lt a 'b'),d b (lt b 'b'),d e (lt e 'b'),d f (lt f 'b')]
 ·rw[Yc 'a',Yc (by rw[bc];lia)]
theorem Ay{L:List Tr}(h:Ord L):∀t:Tr,In L t->dp (rowsOf L) (name L t)=dep t
 |.z,_=>so (by decide:(0:Nat)<2)
 |.o,_=>so (by decide:(1:Nat)<2)
 |.nd a b c d,g=>by
  rcases dH h g with⟨e,_⟩|⟨e,_⟩|⟨i,e,j⟩
  ·cases e
  ·cases e
  ·have f:=λs (k:s∈kids (.nd a b c d))=>(yw h e k).1;rw[j,pN (hV h) (cN e)];show 1+mx [_,_,_,_]=1+mx [dep a,dep b,dep c,dep d];rw[Ay h a (f a (by simp[kids])),Ay h b (f b (by simp[kids])),Ay h c (f c (by simp[kids])),Ay h d (f d (by simp[kids]))]
theorem C4{L:List Tr}(h:Ord L):∀t:Tr,In L t->T (rowsOf L) (name L t)=t
 |.z,_=>iP _
 |.o,_=>iH _
 |.nd a b c d,g=>by
  rcases dH h g with⟨e,_⟩|⟨e,_⟩|⟨i,e,j⟩
  ·cases e
  ·cases e
  ·have f:=λs (k:s∈kids (.nd a b c d))=>(yw h e k).1;rw[j,km (hV h) (cN e),C4 h a (f a (by simp[kids])),C4 h b (f b (by simp[kids])),C4 h c (f c (by simp[kids])),C4 h d (f d (by simp[kids]))]
def o8(L:List Tr):Prop:=∀t∈L,Red t
theorem vh{L:List Tr}{t:Tr}(h:name L t=0):t=.z:=by
 cases t with
 |z=>rfl
 |o=>cases h
 |nd a b c d=>rw[Dj]at h;lia
theorem vb{L:List Tr}{t:Tr}(h:name L t=1):t=.o:=by
 cases t with
 |z=>cases h
 |o=>rfl
 |nd a b c d=>rw[Dj]at h;lia
theorem qD5{L:List Tr}(h:Ord L)(m:o8 L):∀r∈rowsOf L,¬fJ r:=λr k=>by
 obtain⟨i,l,e⟩:=ZM.mp k;obtain⟨t,j,rfl⟩:=LG (i:=i) (r:=r) (by rw[Zd l,e]);obtain⟨⟨a,b,c,d,rfl⟩,_⟩:=h.ch i t j;have g:=m _ (Zo j);rintro(z|z)
 ·have f:[name L a,name L b,name L c,name L d]=[0,0,0,0]:=z;simp only[XG,Vx]at f;exact g.1 ⟨vh f.1,vh f.2.1,vh f.2.2.1,vh f.2.2.2⟩
 ·have f:[name L a,name L b,name L c,name L d]=[1,1,1,1]:=z;simp only[XG,Vx]at f;exact g.2.1 ⟨vb f.1,vb f.2.1,vb f.2.2.1,vb f.2.2.2⟩
theorem xJ5{rows:List Row}(ok:cz rows){E:List Nat}(k:dX rows E):∀q,p6 E q->T (told rows E) (nm E q)=T rows q:=by
 intro q
 induction q using Nat.strongRecOn with
 |ind q i=>
  intro u;by_cases z:q<2
  ·rw[oq z]
   match q,z with
   |0,_=>rw[iP,iP]
   |1,_=>rw[iH,iH]
  ·have l:=u.resolve_left z;have m:=k.lt _ l;have p:=A0 l;obtain⟨a,b,c,d,e⟩:=Az (ok _ _ (ou m)).1;have j:=ou m;have g:=u6 (rows:=rows) p;have f:=λx (s:x∈rows.getD (q-2) [])=>(AZ k p s).1;have h:=(ok _ _ j).2;rw[e]at j g f h;rw[pq z,km (Mj ok k) g];have r:T rows q=.nd (T rows a) (T rows b) (T rows c) (T rows d):=by
    have:=km ok j
    rwa [show q-2+2=q by lia]at this
   rw[r,i a (by have:=h a 'b';lia) (f a 'b'),i b (by have:=h b 'b';lia) (f b 'b'),i c (by have:=h c 'b';lia) (f c 'b'),i d (by have:=h d 'b';lia) (f d 'b')]
theorem q29{n x:Nat}{rows:List Row}(f:n<=12)(ok:cz rows)(b:x<rows.length+2)(a:dp rows x<=n)(c:∀r∈rows,¬fJ r)(nd:rows.Nodup):
  Canon n (nm (cu rows n [] x) x) (told rows (cu rows n [] x))/\T (told rows (cu rows n [] x)) (nm (cu rows n [] x) x)=T rows x:=by
 obtain⟨d,e⟩:=pU ok n [] x (vg rows) b a;exact⟨VC f ok b a c nd,xJ5 ok d x e⟩
theorem q30{L:List Tr}(h:Ord L){t:Tr}(c:∀s∈kids t,In L s):rowsOf (L++[t])=rowsOf L++[(kids t).map (name L)]:=by
 unfold rowsOf;rw[ZW];congr 1
 ·refine Yx λu d=>?_;obtain⟨i,b,e⟩:=ZM.mp d;exact Yx λs a=>dw (yw h (i:=i) (t:=u) (by rw[Zd b,e]) a).1 h
 ·show[(kids t).map (name (L++[t]))]=_;congr 1;exact Yx λs a=>dw (c s a) h
theorem xB1{L:List Tr}(h:Ord L){a b c d:Tr}(k:∀s∈kids (.nd a b c d),In L s):(kids (.nd a b c d)).map (name L)∈rowsOf L<->Tr.nd a b c d∈L:=by
 constructor
 ·intro f;obtain⟨i,g,e⟩:=ZM.mp f;obtain⟨t,j,l⟩:=LG (i:=i) (r:=(kids (.nd a b c d)).map (name L)) (by rw[Zd g,e]);have:=TU ⟨a,b,c,d,rfl⟩ (h.ch i t j).1 (LR h k (λs m=>(yw h j m).1) l);rw[this];exact Zo j
 ·intro f;obtain⟨i,g,e⟩:=ZM.mp f;exact Zo (cN (i:=i) (t:=.nd a b c d) (by rw[Zd g,e]))
theorem xB2{L:List Tr}(h:Ord L){i:Nat}{t:Tr}(e:L[i]?=some t):(rowsOf L).idxOf ((kids t).map (name L))=i:=by
 have d:=(cx e).1;have b:=cN e;have a:i<(rowsOf L).length:=by rw[bc];exact d
 have c:=(cx b).2;rw[<- c];exact(gN h).idxOf_getElem i a
end Qf
namespace Pr
open PySem L2 Qf
theorem RO{H:Hp}{e u:ae}{L:List Tr}(h:Tr.Ord L){a b c d:Tr}(j:Tr.nd a b c d∈L)(l:H e=some (.dT (tK (Tr.rowsOf L))))(p:H u=some (.tup (vN [Tr.name L a,Tr.name L b,Tr.name L c,Tr.name L d]))):
  cS H e (.ref u) (some (.int (Tr.name L (.nd a b c d):Nat))):=by
 obtain⟨i,m,r⟩:=ZM.mp j;have g:L[i]?=some (.nd a b c d):=by rw[Zd m,r]
 have q:=xB2 h g;have f:(Tr.kids (.nd a b c d)).map (Tr.name L)∈Tr.rowsOf L:=Zo (Tr.cN g);have:=cS.t (k:=aU ((Tr.kids (.nd a b c d)).map (Tr.name L))) l (by rw[sg];exact p);rw[RT,Zr f,q]at this;rw[Tr.iJ h g];exact this
end Pr
namespace Qf
open Tr
theorem u0{rows:List Row}(ok:cz rows){q:Nat}(b:q<rows.length+2):(T rows q=z<->q=0)/\(T rows q=o<->q=1):=by
 by_cases a:q<2
 ·match q,a with
  |0,_=>rw[iP];exact⟨⟨λ_=>rfl,λ_=>rfl⟩,⟨λh=>(nomatch h),λh=>(nomatch h)⟩⟩
  |1,_=>rw[iH];exact⟨⟨λh=>(nomatch h),λh=>(nomatch h)⟩,⟨λ_=>rfl,λ_=>rfl⟩⟩
 ·obtain⟨i,d,e,g,f,rfl,c⟩:=mj ok b a;rw[km ok c];exact⟨⟨λh=>(nomatch h),λh=>by lia⟩,⟨λh=>(nomatch h),λh=>by lia⟩⟩
theorem SV{rows:List Row}(ok:cz rows){p a b c d:Nat}(e:rows[p]?=some [a,b,c,d]):a<rows.length+2/\b<rows.length+2/\c<rows.length+2/\d<rows.length+2:=by
 have f:=(cx e).1;have h:=(ok p _ e).2;have h1:=h a 'b';have h2:=h b 'b';have g:=h c 'b';have i:=h d 'b';lia
theorem Gx{rows:List Row}(ok:cz rows)(l:∀r∈rows,¬fJ r):∀x,x<rows.length+2->Red (T rows x):=by
 intro x
 induction x using Nat.strongRecOn with
 |ind x f=>
  intro m;by_cases z:x<2
  ·match x,z with
   |0,_=>rw[iP];trivial
   |1,_=>rw[iH];trivial
  ·obtain⟨p,a,b,c,d,rfl,e⟩:=mj ok m z;have g:=(ok p _ e).2;have u:=(cx e).1;have q:=g a 'b';have j:=g b 'b';have k:=g c 'b';have s:=g d 'b';rw[km ok e];have i:=l _ (Zo e);refine⟨λh=>i (.inl ?_),λh=>i (.inr ?_),f a q 'a',f b j 'a',f c k 'a',f d s 'a'⟩
   ·rw[(u0 ok 'a').1.mp h.1,(u0 ok 'a').1.mp h.2.1,(u0 ok 'a').1.mp h.2.2.1,(u0 ok 'a').1.mp h.2.2.2]
   ·rw[(u0 ok 'a').2.mp h.1,(u0 ok 'a').2.mp h.2.1,(u0 ok 'a').2.mp h.2.2.1,(u0 ok 'a').2.mp h.2.2.2]
theorem Uy{n top:Nat}{rows:List Row}(c:Canon n top rows):Red (T rows top):=Gx c.gA c.dF top c.gp
theorem MU{n top:Nat}{rows:List Row}(c:Canon n top rows):dep (T rows top)<=n:=by
 obtain⟨e,a⟩:=q28 c;obtain⟨d,b⟩:=AL (T rows top) [] lI;have h:=Ay d _ b;rw[<- e,<- a]at h;rw[<- h];exact c.deep
theorem Sy{rows:List Row}(ok:cz rows){p a b c d s:Nat}(g:rows[p]?=some [a,b,c,d])(h:dp rows (p+2)<=s+1):dp rows a<=s/\dp rows b<=s/\dp rows c<=s/\dp rows d<=s:=by
 rw[pN ok g]at h;have e:∀x∈[a,b,c,d],dp rows x<=mx ([a,b,c,d].map (dp rows)):=λx f=>yo (List.mem_map_of_mem f);have h1:=e a 'b';have h2:=e b 'b';have i:=e c 'b';have j:=e d 'b';lia
theorem Sx{a b c d:Tr}{s:Nat}(h:dep (.nd a b c d)<=s+1):dep a<=s/\dep b<=s/\dep c<=s/\dep d<=s:=by
 have i:1+mx [dep a,dep b,dep c,dep d]<=s+1:=h;have e:∀x∈[dep a,dep b,dep c,dep d],x<=mx [dep a,dep b,dep c,dep d]:=λx f=>yo f;have h1:=e (dep a) 'b';have h2:=e (dep b) 'b';have g:=e (dep c) 'b';have j:=e (dep d) 'b';lia
theorem xJ7{a b c d:Tr}{s:Nat}(h1:dep a<=s)(h2:dep b<=s)(f:dep c<=s)(g:dep d<=s):dep (.nd a b c d)<=s+1:=by
 show 1+mx [dep a,dep b,dep c,dep d]<=s+1;have:mx [dep a,dep b,dep c,dep d]<=s:=Kd λx e=>by
  have:x=dep a\/x=dep b\/x=dep c\/x=dep d:=by simpa using e
  rcases this with rfl|rfl|rfl|rfl<;>assumption
 lia
def qr(i:Nat):Tr->Tr
 |.nd a b c d=>[a,b,c,d].getD i .z
 |t=>t
theorem FZ{rows:List Row}(ok:cz rows){p i:Nat}{r:Row}{x:Nat}(f:rows[p]?=some r)(g:i<4)(e:r[i]?=some x):T rows x=qr i (T rows (p+2)):=by
 obtain⟨a,b,c,d,rfl⟩:=Az (ok p r f).1;rw[km ok f]
 match i,g with
 |0,_=>cases e;rfl
 |1,_=>cases e;rfl
 |2,_=>cases e;rfl
 |3,_=>cases e;rfl
theorem xJ8{i k:Nat}(f:i<4):∀(t:Tr),dep t<=k+1->dep (qr i t)<=k
 |.z,_=>ZU _
 |.o,_=>ZU _
 |.nd a b c d,h=>by
  have g:mx [dep a,dep b,dep c,dep d]<=k:=by
   have:1+mx [dep a,dep b,dep c,dep d]<=k+1:=h;lia
  have m:∀x∈[dep a,dep b,dep c,dep d],x<=k:=λx e=>ZN (yo e) g
  match i,f with
  |0,_=>exact m (dep a) 'b'
  |1,_=>exact m (dep b) 'b'
  |2,_=>exact m (dep c) 'b'
  |3,_=>exact m (dep d) 'b'
end Qf
namespace Qf
theorem CP{n tp:Nat}{rows:List Row}(c:Canon n tp rows)(h:rows≠[]):tp=rows.length+1:=by
 have e:=c.ends;have d:=c.deep;have a:rows.length≠0:=λz=>h (List.length_eq_zero_iff.mp z);cases n with
 |zero=>exact absurd (Yo List.length e) (by rw[Z5];exact λz=>a z.symm)
 |succ n=>
  unfold cu at e;by_cases z:tp<2\/tp-2∈([]:List Nat)
  ·rw[Zr z]at e;exact absurd (Yo List.length e) (by rw[Z5];exact λz=>a z.symm)
  ·rw[Zi z]at e;obtain⟨m,b⟩:∃m,rows.length=m+1:=⟨rows.length-1,by lia⟩;rw[b,XE]at e;have f:=(List.append_inj' e rfl).2;have:=List.cons.inj f;have h2:¬tp<2:=λy=>z (.inl y);lia
theorem Ux{n tp:Nat}(c:Canon n tp []):tp<2:=c.gp
theorem q31{n tp:Nat}{rows:List Row}(c:Canon n tp rows)(h:1<rows.length):∃r x,rows[rows.length-1]?=some r/\x∈r/\2<=x:=by
 have j:rows≠[]:=λz=>by rw[z]at h;exact absurd h 'c'
 have e:=c.ends;have m:=CP c j;obtain⟨r,f⟩:∃r,rows[rows.length-1]?=some r:=⟨_,Zd 'a'⟩;refine Classical.byContradiction λno=>?_;have g:∀x∈r,x<2:=λx d=>Nat.lt_of_not_le λz=>no ⟨r,x,f,d,z⟩;cases n with
 |zero=>exact absurd (Yo List.length e) (by rw[Z5];show(0:Nat)≠_;lia)
 |succ n=>
  unfold cu at e;rw[Zi (by rintro(z|z);lia;exact nomatch z)]at e;rw[show rows.getD (tp-2) []=r by rw[Zt,show tp-2=rows.length-1 by lia,f];rfl]at e;have b:∀(l:List Nat)(a:List Nat),(∀x∈l,x<2)->l.foldl (cu rows n) a=a:=by
   intro l
   induction l with
   |nil=>intro a _;rfl
   |cons x l i=>
    intro a d;rw[Z9];have:cu rows n a x=a:=by
     cases n with
     |zero=>rfl
     |succ n=>unfold cu;rw[Zr (.inl (d x Zw))]
    rw[this];exact i a λy k=>d y (Zn _ k)
  rw[b r [] g]at e;have:=Yo List.length e;rw[Z5]at this;have:1=rows.length:=this;lia
end Qf
namespace Pr
open PySem L2 Qf
def ki(d:PyData):Prop:=g9 d/\¬fw d
theorem vn{d:PyData}(h:∀a b c,d≠.tuple [a,b,c]):ki d:=⟨λa b f e=>absurd e (h _ _ _),λ⟨n,g,rows,e,_⟩=>absurd e (h _ _ _)⟩
theorem mn{a b c:PyData}(hb:∀d,c=.tuple d->d.length<=900)(no:∀(n f:Nat) rows,a=.int (n:Nat)->b=.int (f:Nat)->c=.tuple (rows.map dR)->¬Canon n f rows):ki (.tuple [a,b,c]):=by
 refine⟨λg h d e=>?_,λ⟨n,f,rows,e,c⟩=>?_⟩
 ·injection e with e
  injection e with _ e
  injection e with _ e
  injection e with e _
  exact hb d e
 ·unfold oo at e;injection e with e
  injection e with a e
  injection e with b e
  injection e with e _
  exact no n f rows a b e c
theorem CH{a b:List Row}(h:PyData.tuple (a.map dR)=.tuple (b.map dR)):a=b:=(XA (λ_ _ z=>KG z)).mp (YR h)
theorem xB3{rows c:List Row}{x:PyData}(h:PyData.tuple (rows.map dR++[x])=.tuple (c.map dR)):∃r,c=rows++[r]/\x=dR r:=by
 have e:=YR h;obtain⟨a,b,i,f,k⟩:=List.map_eq_append_iff.mp e.symm;obtain⟨r,q,g,j,d⟩:=List.map_eq_cons_iff.mp k;have:=Xs.mp d;subst this g i;exact⟨r,by rw[(XA (λ_ _ z=>KG z)).mp f],j.symm⟩
section
variable{n tp:Nat}{rows:List Row}
theorem u_(b:rows.length<=50):∀a,PyData.tuple (rows.map dR)=.tuple a->a.length<=900:=λa e=>by
 injection e with e
 rw[<- e,Ze];lia
theorem xp3{x:PyData}(b:rows.length<=50):∀a,PyData.tuple (rows.map dR++[x])=.tuple a->a.length<=900:=λa e=>by
 injection e with e
 rw[<- e,Zk,Ze];show rows.length+1<=900;lia
theorem L6:∀a,PyData.tuple []=.tuple a->a.length<=900:=λa e=>by cases e;decide
theorem Dh(c:Canon n tp rows)(a:rows.length<=50)(x:PyData):ki (.tuple [.int (n:Nat),.int (tp:Nat),.tuple (rows.map dR++[x])]):=by
 refine mn (xp3 a) λg f i h e b d=>?_;obtain⟨r,rfl,_⟩:=xB3 b;have h1:=CP d 'b';have h2:=Yv e;have j:=c.gp;rw[Zk]at h1;have h1:f=rows.length+1+1:=h1;lia
theorem xe7(c:rows.length<=50):ki (.tuple [.int (n:Nat),.int ((rows.length:Int)+2),.tuple (rows.map dR)]):=by
 refine mn (u_ c) λe h g f d a b=>?_;have:=CH a;subst this;have h2:=Yv d;have:=b.gp;lia
theorem xO8{b c:PyData}(hb:∀a,c=.tuple a->a.length<=900):ki (.tuple [.int 13,b,c]):=mn hb λf j h d i g e=>by
 have h2:=Yv d;have:=e.size;lia
theorem xB4(c:Canon n tp rows)(h:rows≠[])(e:rows.length<=50){x:Int}(j:x=(dp rows tp:Nat)-1):ki (.tuple [.int x,.int (tp:Nat),.tuple (rows.map dR)]):=by
 refine mn (u_ e) λl i m b g a d=>?_;have:=CH a;subst this;have h2:=Yv g;have f:tp=i:=by lia
 subst f;have q:=Yv b;have p:=d.deep;have k:dp rows tp≠0:=λz=>by
  have:=CP c h;have:=uS c.gA c.gp (Wv z);lia
 lia
theorem xp4(h:rows≠[])(k:rows.length<=50){a b:PyData}:ki (.tuple [a,b,.tuple (rows.reverse.map dR++rows.map dR)]):=by
 refine mn (λj e=>?_) λf m i g l c d=>?_
 ·injection e with e
  rw[<- e,Zk,Ze,Ze,YF];lia
 ·rw[<- ZW]at c;have:=CH c;subst this;have nd:=d.unlike;obtain⟨r,q,e⟩:∃r q,rows=r::q:=by
   cases rows with
   |nil=>exact absurd rfl h
   |cons r q=>exact⟨r,q,rfl⟩
  exact(Yk.mp nd).2.2 r (by rw[e];simp) r (by rw[e];simp) rfl
theorem xB5(h:rows≠[])(b:rows.length<=50){a:PyData}:ki (.tuple [a,.int 0,.tuple (rows.map dR)]):=by
 refine mn (u_ b) λf j i g e c d=>?_;have:=CH c;subst this;have h2:=Yv e;have:=CP d h;lia
theorem xp5(c:Canon n tp rows)(h:rows≠[]){a:PyData}:ki (.tuple [a,.int (tp:Nat),.tuple []]):=by
 refine mn L6 λg m d i f b e=>?_;have:d=[]:=by
  have:=YR b;exact Xs.mp this.symm
 subst this;have h2:=Yv f;have k:=CP c h;have l:=Ux e;have j:=Xq.mpr h;lia
theorem xB6(c:Canon n tp rows)(h:1<rows.length)(q:rows.length<=50){a b:PyData}:ki (.tuple [a,b,.tuple (rows.reverse.map dR)]):=by
 refine mn (λp e=>?_) λk u m l s g j=>?_
 ·injection e with e
  rw[<- e,Ze,YF];lia
 ·have:=CH g;subst this;obtain⟨r,x,f,d,h2⟩:=q31 c h;have i:rows.reverse[0]?=some r:=by rw[List.getElem?_reverse 'a',Nat.sub_zero];exact f
  have:=(j.gA 0 r i).2 x d;lia
end
end Pr
namespace HT
open PySem PySem.Spec PyProof.Rows
theorem QU:∀c:Nat,c<2->Builtin.Slice.sliceAdjust (some (c:Int)) none 2 (4:Int)=((c:Int),4):=by
 intro c a
 match c,a with
 |0,_=>rfl
 |1,_=>rfl
theorem M_:∀c:Nat,c<2->Builtin.Slice.slicePlaces (c:Int) 4 2=2:=by
 intro c a
 match c,a with
 |0,_=>rfl
 |1,_=>rfl
theorem qx5{g:ae}{c:Nat}{a d vs:aa}{Q:Int×Int×Nat->af->Prop}(hs:s.heap.IsSliceOf g a d vs)(pl:IsPart a (some (c:Int)))(i:IsPart d none)(ps:IsPart vs (some 2))(hc:c<2)(h:Q ((c:Int),2,2) s):ag (aj prog w) A (Builtin.Slice.sliceApplied (.ref g) (pure (4:Int))) Q E s:=by
 obtain⟨l,b,k,e⟩:=id hs;unfold Builtin.Slice.sliceApplied Builtin.Slice.sliceFields;refine Za (Za (ZP b e (x:=a) rfl (Za (ZP b e (x:=d) rfl (Za (ZP b e (x:=vs) rfl (Zc ?_)))))));refine Za (vk ps ?_);show ag _ _ (if((2:Int)==0)=true then _ else _) _ _ s;rw[Zi 'c'];refine Za (vk pl (Za (vk i (Za (Zc ?_)))));show ag _ _ (match Builtin.Slice.sliceAdjust (some (c:Int)) none 2 (4:Int)with|(f,j)=>pure (f,(2:Int),Builtin.Slice.slicePlaces f j 2)) _ _ s;rw[QU c hc];show ag _ _ (pure ((c:Int),(2:Int),Builtin.Slice.slicePlaces (c:Int) 4 2)) _ _ s;rw[M_ c hc];exact Zc h
theorem gQ{t i:ae}{d a b e:aa}{c:Nat}{Q:aa->af->Prop}(g:IsTup s.heap t #[d,a,b,e]){j k vs:aa}(hs:s.heap.IsSliceOf i j k vs)(pl:IsPart j (some (c:Int)))(l:IsPart k none)(ps:IsPart vs (some 2))(hc:c<2)
  (h:Q (.ref s.heap.objs.size) {s with heap:=s.heap.push {cls:=.type "tuple",data:=.seq (if c=0 then #[d,b]else #[a,e])}}):ag (aj prog w) A (getItem (.ref t) (.ref i)) Q E s:=by
 obtain⟨y,x,p,B⟩:=id hs;have r:s.TypeIs (.ref i) "slice":=⟨y,x,p⟩;unfold getItem
 try with_reducible refine ZK ?_
 first|refine Za (Zc ?_)|skip
 refine Za (Wy g.typeIs 'c' ?_);refine Za (ZS (name:=Str.ofString "__getitem__") g.typeIs ZH
  (Z7 ZH g.typeIs We ?_ (Wp _ _)))
 show ag _ _ (Builtin.Tuple.tupleItemsOf (.ref t) >>= _) _ _ s;refine Za (tupleItemsOf_ g ?_);refine Za (Wz r ?_);rw[Zr 'c'];refine Za (qx5 hs pl l ps hc ?_);have v:¬(((c:Int)==0&&(2:Int)==1&&(2:Nat)==(#[d,a,b,e]:Array aa).size)=true):=by
  intro q;rw[YB,YB]at q;exact absurd q.1.2 'c'
 show ag _ _ (if((c:Int)==0&&(2:Int)==1&&(2:Nat)==(#[d,a,b,e]:Array aa).size)=true then _ else _) _ _ s;rw[Zi v];have u:((List.range 2).filterMap λ(m:Nat)=>(#[d,a,b,e]:Array aa)[((c:Int)+(m:Int)*2).toNat]?).toArray=(if c=0 then #[d,b]else #[a,e]):=by
  match c,hc with
  |0,_=>rfl
  |1,_=>rfl
 rw[u];have f:sizeOk (.seq (if c=0 then #[d,b]else #[a,e])):=by
  match c,hc with
  |0,_=>show 2<=sizeLine;decide
  |1,_=>show 2<=sizeLine;decide
 first
  |exact Za (m:=Builtin.Tuple.tupleExact _) (ZO (Zc ⟨_,rfl,Zc h⟩) f)
  |exact Za (m:=Builtin.Tuple.tupleExact _) (ZO (Za (Zc (Zc ⟨_,rfl,Zc h⟩))) f)
  |exact Za (Za (m:=Builtin.Tuple.tupleExact _) (ZO (Zc (Zc ⟨_,rfl,Zc h⟩)) f))
  |exact Za (Za (m:=Builtin.Tuple.tupleExact _) (ZO (Zc ⟨_,rfl,Zc h⟩) f))
end HT
namespace L2
open PySem PySem.Spec PyProof.Rows
section
variable{X:Cx}{e:ar}{te:TE}{lo hi:Option ar}{st:ar}{tl th ts:TO}{pos p2:aA}
def Ah(X:Cx)(r:V->Option Int->Option Int->Option Int->Hp->VK->Prop):Prop:=
 ∀(g:List (ae×aw))(s:af)(b:St)(H:Hp)(x:V)(v a f c:aa)(lo hi st:Option Int)(d:ae)(Q:VK),Inv X g b H s->RelV x v->s.heap.IsSliceOf d a f c->IsPart a lo->IsPart f hi->IsPart c st->r x lo hi st H Q ->
  ∃T id,typeLookup (.type T) "__getitem__"=pure (some (.builtin id))/\s.TypeIs v T/\ag (aj X.prog X.w) X.A (getItem v (.ref d)) (EP X g b Q) X.xe s
def BU(r:V->Option Int->Option Int->Option Int->Hp->VK->Prop)(te:TE)(tl th ts:TO):TE:=λa H Q=>te a H λx b=>tl a b λl f=>th a f λu c=>ts a c λk d=>r x l u k d Q
theorem MT{r:V->Option Int->Option Int->Option Int->Hp->VK->Prop}(C:Ah X r)(F:PE X e te)(J:PO X lo tl)(E:PO X hi th)(D:PO X (some st) ts):PE X (.Subscript e (.Slice lo hi (some st) p2) pos) (BU r te tl th ts):=by
 intro d s c H Q I h;refine Subscript_ (bC (F d s c H _ I h) λv K ⟨x,G,P,W,L⟩=>?_);refine wpAny_Slice (bC (J d K c G _ P L) λi s2 ⟨l,Z,w,U,q2⟩=>bC (E d s2 c Z _ w q2) λg Y ⟨u,M,S,A,O⟩=>bC (D d Y c M _ S O) λf a ⟨k,j,B,p,m⟩=>?_);have R:Inv X d c j {a with heap:=a.heap.push {cls:=.type "slice",data:=.fields #[i,g,f]}}:=B.kept (t':=a.toks) λb ob q=>Zb _ q;obtain⟨T,id,N,ht,y⟩:=C d {a with heap:=a.heap.push {cls:=.type "slice",data:=.fields #[i,g,f]}} c j x v i g f l u k a.heap.objs.size Q R W (Heap.IsSliceOf.new ..) U A p m;show ag (aj X.prog X.w) X.A (subscriptTail e (.Slice lo hi (some st) p2) v (.ref a.heap.objs.size)) (EP X d c Q) X.xe {a with heap:=a.heap.push {cls:=.type "slice",data:=.fields #[i,g,f]}};exact tail_any (ops:=[v,.ref a.heap.objs.size]) ht N y (by with_unfolding_all rfl)
inductive rT(K_:PySem.W.Frag)(x:V)(lo:Option Int)(hi:Option Int)(st:Option Int)(H:Hp)(Q:VK):Prop
 |mk(a:ae)(x0 x1 x2 x3:V)(c:Nat)(aM:x=.ref a)(dh:lo=some (c:Int))(bH:hi=none)(aF:st=some 2)(zX:c<2)(By:aQ K_ H a [x0,x1,x2,x3])(e6_:∀p,H p=none->Q (.ref p) (upd H p (.tup (if c=0 then[x0,x2]else[x1,x3]))))
theorem xJ9:Ah X (rT X.K):=by
 intro O s M H x v T S R lo hi st N Q I E D G C y h;obtain⟨a,k,w,l,p,c,rfl,rfl,rfl,rfl,m,F,q⟩:=h;cases E;obtain⟨A,r,u,P⟩:=I.tuple F;obtain⟨g,i,f,j,rfl,B,K,J,L⟩:∃g i f j,A=[g,i,f,j]/\RelV k g/\RelV w i/\RelV l f/\RelV p j:=by
  cases r with
  |cons a r=>cases r with
   |cons b r=>cases r with
    |cons c r=>cases r with
     |cons d r=>cases r;exact⟨_,_,_,_,rfl,a,b,c,d⟩
 refine⟨"tuple",_,ZH.lookup,u.typeIs,?_⟩;refine HT.gQ u D G C y m ?_;refine⟨.ref s.heap.objs.size,_,I.laid (t':=s.toks) (o:=.tup (if c=0 then[k,l]else[w,p])) (λb ob q=>Zb _ q) (Zg _) ?_,rfl,q _ (I.aW.fresh (Zg _))⟩
 match c,m with
 |0,_=>exact⟨by show 2<=sizeLine;decide,[g,f],.cons B (.cons J .nil),cJ.new _ _⟩
 |1,_=>exact⟨by show 2<=sizeLine;decide,[i,j],.cons K (.cons L .nil),cJ.new _ _⟩
end
end L2
namespace HT
open PySem PySem.Spec PyProof.Rows
theorem xB7(n:Nat):Builtin.Slice.slicePlaces ((n:Int)-1) (-1) (-1)=n:=by
 unfold Builtin.Slice.slicePlaces;rw[Zi 'c'];by_cases h:n=0
 ·subst h;rfl
 ·rw[Zr 'a'];have:-(-1:Int)=1:=by decide
  rw[this,Int.ediv_one];lia
theorem Sw{b c:Type}{f:b->Option c}{g:b->c}:∀l:List b,(∀m∈l,f m=some (g m))->l.filterMap f=l.map g
 |[],_=>rfl
 |a::l,h=>by rw[List.filterMap_cons_some (h a Zw),ZL,Sw l λm d=>h m (Zn _ d)]
theorem xp6(us:List aa):((List.range us.length).filterMap λ(m:Nat)=>(us.toArray:Array aa)[(((us.length:Nat):Int)-1+(m:Int)*(-1)).toNat]?)=us.reverse:=by
 refine XV λi=>?_;have e:(List.range us.length).filterMap (λ(m:Nat)=>(us.toArray:Array aa)[(((us.length:Nat):Int)-1+(m:Int)*(-1)).toNat]?)=(List.range us.length).map λm=>us.reverse.getD m .none:=by
  refine Sw _ λm a=>?_;have a:=ZX.mp a;rw[XS,show(((us.length:Nat):Int)-1+(m:Int)*(-1)).toNat=us.length-1-m by lia,Zt,List.getElem?_reverse a,Zd (show us.length-1-m<us.length by lia)]
  rfl
 rw[e,Zf];by_cases h:i<us.length
 ·rw[Y5 h,Zd (show i<us.reverse.length by rw[YF];exact h)];show some (us.reverse.getD i .none)=_;rw[Zt,Zd (show i<us.reverse.length by rw[YF];exact h)]
  rfl
 ·rw[Yc (by rw[Z5];lia),Yc (by rw[YF];lia)]
  rfl
theorem qx6{e:ae}{n:Nat}{a c vs:aa}{Q:Int×Int×Nat->af->Prop}(hs:s.heap.IsSliceOf e a c vs)(pl:IsPart a none)(f:IsPart c none)(ps:IsPart vs (some (-1)))(h:Q (((n:Nat):Int)-1,-1,n) s):ag (aj prog w) A (Builtin.Slice.sliceApplied (.ref e) (pure (n:Int))) Q E s:=by
 obtain⟨i,b,g,d⟩:=id hs;unfold Builtin.Slice.sliceApplied Builtin.Slice.sliceFields;refine Za (Za (ZP b d (x:=a) rfl (Za (ZP b d (x:=c) rfl (Za (ZP b d (x:=vs) rfl (Zc ?_)))))));refine Za (vk ps ?_);show ag _ _ (if((-1:Int)==0)=true then _ else _) _ _ s;rw[Zi 'c'];refine Za (vk pl (Za (vk f (Za (Zc ?_)))));show ag _ _ (pure (((n:Nat):Int)-1,(-1:Int),Builtin.Slice.slicePlaces (((n:Nat):Int)-1) (-1) (-1))) _ _ s;rw[xB7 n];exact Zc h
theorem gR{t c:ae}{us:List aa}{Q:aa->af->Prop}(a:IsTup s.heap t us.toArray){d e vs:aa}(hs:s.heap.IsSliceOf c d e vs)(pl:IsPart d none)(f:IsPart e none)(ps:IsPart vs (some (-1)))(hz:us.length<=sizeLine)
  (h:Q (.ref s.heap.objs.size) {s with heap:=s.heap.push {cls:=.type "tuple",data:=.seq us.reverse.toArray}}):ag (aj prog w) A (getItem (.ref t) (.ref c)) Q E s:=by
 obtain⟨p,l,g,r⟩:=id hs;have i:s.TypeIs (.ref c) "slice":=⟨p,l,g⟩;unfold getItem
 try with_reducible refine ZK ?_
 first|refine Za (Zc ?_)|skip
 refine Za (Wy a.typeIs 'c' ?_);refine Za (ZS (name:=Str.ofString "__getitem__") a.typeIs ZH
  (Z7 ZH a.typeIs We ?_ (Wp _ _)))
 show ag _ _ (Builtin.Tuple.tupleItemsOf (.ref t) >>= _) _ _ s;refine Za (tupleItemsOf_ a ?_);refine Za (Wz i ?_);rw[Zr 'c'];have j:(us.toArray:Array aa).size=us.length:=Zx;refine Za ?_;rw[j];refine qx6 hs pl f ps ?_;have k:¬(((((us.length:Nat):Int)-1)==0&&(-1:Int)==1&&us.length==us.length)=true):=by
  intro q;rw[YB,YB]at q;exact absurd q.1.2 'c'
 show ag _ _ (if((((us.length:Nat):Int)-1)==0&&(-1:Int)==1&&us.length==us.length)=true then _ else _) _ _ s;rw[Zi k];rw[xp6];have b:sizeOk (.seq us.reverse.toArray):=by
  show us.reverse.toArray.size<=sizeLine;rw[Zx,YF];exact hz
 first
  |exact Za (m:=Builtin.Tuple.tupleExact _) (ZO (Zc ⟨_,rfl,Zc h⟩) b)
  |exact Za (m:=Builtin.Tuple.tupleExact _) (ZO (Za (Zc (Zc ⟨_,rfl,Zc h⟩))) b)
  |exact Za (Za (m:=Builtin.Tuple.tupleExact _) (ZO (Zc (Zc ⟨_,rfl,Zc h⟩)) b))
  |exact Za (Za (m:=Builtin.Tuple.tupleExact _) (ZO (Zc ⟨_,rfl,Zc h⟩) b))
end HT
namespace L2
open PySem PySem.Spec PyProof.Rows
section
variable{X:Cx}
inductive mH(K_:PySem.W.Frag)(x:V)(lo hi st:Option Int)(H:Hp)(Q:VK):Prop
 |mk(a:ae)(xs:List V)(e0:x=.ref a)(e1:lo=none)(e2:hi=none)(e3:st=some (-1))(e4:aQ K_ H a xs)(q:∀p,H p=none->Q (.ref p) (upd H p (.tup xs.reverse)))
theorem RN:Ah X (mH X.K):=by
 intro B s w H x v F D C u E y A Q I k j p i g h;obtain⟨a,e,rfl,rfl,rfl,rfl,l,q⟩:=h;cases k;obtain⟨d,r,f,m⟩:=I.tuple l;have c:d.length<=sizeLine:=by have:=r.length;first|lia|(rw[Zx]at m;lia)
 refine⟨"tuple",_,ZH.lookup,f.typeIs,?_⟩;refine HT.gR f j p i g c ?_;refine⟨.ref s.heap.objs.size,_,I.laid (t':=s.toks) (o:=.tup e.reverse) (λb ob q=>Zb _ q) (Zg _) ?_,rfl,q _ (I.aW.fresh (Zg _))⟩;exact⟨by show e.reverse.length<=sizeLine;rw[YF,r.length];exact c,d.reverse,r.reverse,cJ.new _ _⟩
end
end L2
namespace Pr
open PySem L2 Qf
section
variable{mg:aq->Option aa}{base:ao}
theorem gM:aE ["_law_script","_law_k","_law_cell","_law_seed","_law_other"] ["_law_script","_law_k"] (cg Io):=cZ
def Sv(K:PySem.W.Frag):Sp:=λd H Q _=>∃(a:ae)(k:Int)(c:List Int),d=[.ref a,.int k]/\bY K H a (c.map V.int)/\c.length<=63/\0<=k/\k<=1000/\∀(b:Hp)(p:ae),aC H b->H p=none->ba b p->Q (.ref p) b
theorem xB8{b:List Int}{lo c:Option Int}{i:Nat}{y:V}(h:(dk (b.map V.int) lo c)[i]?=some y):∃n:Int,y=.int n:=by
 have a:=Zo h;unfold dk at a;have h2:=List.mem_of_mem_drop (WQ a);obtain⟨n,_,e⟩:=ZV.mp h2;exact⟨n,e.symm⟩
theorem Vz{a:ae}{k:Int}{h:List Int}{H:Hp}{Q:VK}(v:bY K H a (h.map V.int))(h0:0<=k)(h1:k<=1000)(q:∀(b:Hp)(p:ae),aC H b->H p=none->ba b p->Q (.ref p) b)(c:Int):
  p9 (BW (Ki K (Hh (Cw K) (eh 0) AH (Dt (tC (.int 30))))) (eZ 4) (lu (nh (rI (λ_ j=>0<j) λi j=>.int (i%j)) (nh (om λi j=>.int (i+j)) (nh (rI sd λi j=>.int (i*j)) (eh 3) (tC (.int 48271))) (eh 4)) (tC (.int 2147483647))) (eZ 3)))
   (BV (p_ (iN (nh (rI sd λi j=>.int (i*j)) (eh 2) (Av (λxs H Q=>(∃i,xs=[V.int i]/\Q (.int i) H)\/∃k,xs=[V.bl k]/\Q (.int (if k then 1 else 0)) H) (iN (nh (om λi j=>.bl (decide (j<=i))) (eh 2) (nh (rI As λi j=>.int (i^j.toNat)) (tC (.int 10)) (tC (.int 18)))) hJ))) (iN (eh 3) hJ))))
   {nx:=λ_ b=>Q .cA b,rt:=Q} [some (.ref a),some (.int k),some (.int c),some (.int (97+6007*k)),none] H:=by
 refine⟨_,rfl,_,rfl,a,_,rfl,v,λp l=>⟨p,rfl,⟨_,bY.of aX⟩,HI (K:=K) (a:=p) (xs:=dk (h.map V.int) none (some 30)) (λi d f=>f=upd H p (.lst (dk (h.map V.int) none (some 30)))/\∃(y:Int)(g:Option V),d=[some (.ref a),some (.int k),some (.int c),some (.int y),g]/\0<=y/\y<2^40)
  ⟨rfl,_,_,rfl,by lia,by lia⟩ (λi d f _ ⟨e,_⟩=>by rw[e];exact bY.of aX) ?_ ?_⟩⟩
 ·rintro i y d f A ⟨rfl,z,g,rfl,s,m⟩;obtain⟨n,rfl⟩:=xB8 A;refine⟨_,rfl,_,_,rfl,rfl,.inl ⟨by lia,by lia⟩,_,rfl,_,_,rfl,rfl,_,_,rfl,rfl,(by show(0:Int)<2147483647;decide),rfl,_,_,rfl,?_,?_⟩
  ·exact WX _ 'c'
  ·have:(z*48271+n)%2147483647<2147483647:=Xz _ 'c';show(z*48271+n)%2147483647<2^40;lia
 ·rintro d f ⟨rfl,z,g,rfl,s,m⟩;refine⟨_,rfl,_,rfl,_,_,rfl,rfl,⟨by decide,by decide,by decide⟩,_,_,rfl,rfl,.inr ⟨_,rfl,_,_,rfl,rfl,.inr ?_,_,rfl,(by show 2<=sizeLine;decide),λx u=>?_⟩⟩
  ·constructor<;>split<;>decide
  ·refine q _ x ((bF l).trans (bF u)) ?_ ⟨_,_,aX,?_,s,m⟩
   ·exact(bF l).free u
   ·by_cases r:(10:Int)^(18:Int).toNat<=c
    ·rw[Zq r];show 0<=c*1;have:(0:Int)<=10^(18:Int).toNat:=by decide
     lia
    ·rw[Zy r];show 0<=c*0;lia
theorem xp7{f:ae}{p:ai}(F:aP K "_law_purse" "_law_purse" Io f p)(B:d_ mg):aB P w K mg base aJ 1 f p ["_law_script","_law_k"] (Sv K):=by
 refine F.ok gM (λr H Q E h=>?_) (λy A e s H r Q E x h=>?_)
 ·obtain⟨a,k,b,rfl,_⟩:=h
  rfl
 ·obtain⟨a,k,b,rfl,d,C,i,h1,q⟩:=h;refine⟨_,dG (eI 2 gM.nd (xj3 (dI mi (pv 1) (cQ iq 'd' B.len ZF (aD (pv 0) aH)) (cP _)) (cO jv (pv 0) (pv 1)) aR))
   (dG (eI 3 gM.nd (cy iR aR (cy pP aR (pv 1))))
   (dG (o_ Yj rfl (Mp (tO Mo (pv 0) pS (nF aR))) (dj 4 gM.nd)
    (cm (eI 3 gM.nd (cy A2 (cy iR (cy pP (pv 3) aR) (pv 4)) aR))))
   (cm (cj (iI (aD (cy pP (pv 2) (hZ HV 'd' B.int YW (aD (oy Ti (pv 2) (cy xF7 aR aR) (cP _)) aH))) (aD (pv 3) aH))))))),?_⟩
  refine⟨_,rfl,_,rfl,a,_,rfl,.inl d,_,_,rfl,rfl,_,rfl,?_⟩;refine dD (λl=>?_) (λl=>?_)
  ·have u:k<(b.length:Int):=by
    have:=ZI l;simpa using this
   have g:k.toNat<b.length:=by lia
   have m:=kr (xs:=b.map V.int) (j:=k.toNat) (v:=.int (b[k.toNat])) (by simp[g]);rw[show((k.toNat:Nat):Int)=k by lia]at m;refine⟨_,rfl,_,rfl,a,_,k,.int (b[k.toNat]),rfl,rfl,d,m,?_⟩;generalize b[k.toNat]=c;refine⟨_,rfl,_,_,rfl,rfl,.inl ⟨by decide,by decide⟩,_,_,rfl,rfl,?_⟩;exact Vz d i h1 q c
  ·refine⟨_,rfl,_,_,rfl,rfl,.inl ⟨by decide,by decide⟩,_,_,rfl,rfl,?_⟩;exact Vz d i h1 q 0
end
end Pr
namespace L2
open PySem
def Oi(K:PySem.W.Frag)(e:TE):TI:=λd H R=>e d H λx b=>∃a,x=.ref a/\(((∃c,bY K b a c)/\R (uD K a) b)\/((∃c,aQ K b a c)/\R (sO K a) b))
theorem RM{X:Cx}{w l:ar}{m:TE}(C:PE X l m):PI X w l (Oi X.K m):=by
 intro k s r H R I h;refine bC (C k s r H _ I h) λv c ⟨x,f,d,B,a,ex,i⟩=>?_;subst ex;cases B;have fresh:∀b∈[c.heap.objs.size],gz X k f b:=λb hb=>by
  have e:b=c.heap.objs.size:=by simpa using hb
  subst e;exact d.lP (Zg _) (d.aW.fresh (Zg _))
 rcases i with⟨⟨A,g⟩,q⟩|⟨⟨A,g⟩,q⟩
 ·obtain⟨j,u,p,y⟩:=d.list g;exact Xj p.isList ⟨c.heap.objs.size,[c.heap.objs.size],_,_,f,rfl,d.kept (t':=c.toks) λb o e=>Zb _ e,U9 a _,⟨_,Zh _ rfl,rfl,rfl⟩,fresh,q⟩
 ·obtain⟨j,u,p,y⟩:=d.tuple g;exact YM (show c.heap.IsTuple a j.toArray from p) ⟨c.heap.objs.size,[c.heap.objs.size],_,_,f,rfl,d.kept (t':=c.toks) λb o e=>Zb _ e,VH a _,⟨_,Zh _ rfl,rfl,rfl⟩,fresh,q⟩
theorem TR{K:PySem.W.Frag}{a:ae}{xs:List V}{g:TG}{tb:TS}{D:Ends}{σ:St}{H:Hp}(e:Nat->St->Hp->Prop)(q:(∀i σ b,e i σ b->bY K b a xs)\/(∀i σ b,e i σ b->aQ K b a xs))(h0:e 0 σ H)
  (hs:∀i x σ H,xs[i]?=some x->e i σ H->g x σ H λf b=>tb {D with nx:=e (i+1),ct:=e (i+1),bk:=D.nx} f b) (l:∀σ H,e xs.length σ H->D.nx σ H):
  ((∃xs,bY K H a xs)/\∃W:Nat->Nat->St->Hp->Prop,(∃m,W 0 m σ H)/\∀i m σ H,W i m σ H ->
   ((uD K a).stop i H/\D.nx σ H)\/((uD K a).go i H/\∃N:St->Hp->Prop,(∀c d,N c d->∃j,j<m/\W (i+1) j c d)/\∀x d,(uD K a).mV i H x d->g x σ d λf b=>tb {D with nx:=N,ct:=N,bk:=D.nx} f b)) \/
  ((∃xs,aQ K H a xs)/\∃W:Nat->Nat->St->Hp->Prop,(∃m,W 0 m σ H)/\∀i m σ H,W i m σ H ->
   ((sO K a).stop i H/\D.nx σ H)\/((sO K a).go i H/\∃N:St->Hp->Prop,(∀c d,N c d->∃j,j<m/\W (i+1) j c d)/\∀x d,(sO K a).mV i H x d->g x σ d λf b=>tb {D with nx:=N,ct:=N,bk:=D.nx} f b)):=by
 rcases q with h|h
 ·exact .inl ⟨⟨xs,h 0 σ H h0⟩,HI e h0 (λi σ b p k=>h i σ b k) hs l⟩
 ·exact .inr ⟨⟨xs,h 0 σ H h0⟩,CD e h0 (λi σ b p k=>h i σ b k) hs l⟩
end L2
namespace Pr
open PySem L2 Qf
section
variable{mg:aq->Option aa}{base:ao}
theorem qt:aE ["_law_purse_here","_law_many","_law_digit"] ["_law_purse_here","_law_many"] (cg tR):=cZ
def yv:Sp:=λb H Q _=>∃(p:ae)(n:Nat),b=[.ref p,.int (n:Nat)]/\ba H p/\0<n/\n<1000000/\∀(d:Nat)(a:Hp),d<n->bJ p H a->ba a p->Q (.int (d:Nat)) a
theorem Ax{f:ae}{m:ai}(F:aP K "_law_draw" "_law_draw" tR f m):aB P w K mg base aJ 1 f m ["_law_purse_here","_law_many"] yv:=by
 refine F.ok qt (λC H Q E h=>?_) (λO A j s H C Q E J h=>?_)
 ·obtain⟨p,n,rfl,_⟩:=h
  rfl
 ·obtain⟨p,n,rfl,⟨a,b,c,r,hb,v⟩,N,R,q⟩:=h;refine⟨_,dG (c9 (dI Du (cO jv (pv 0) aR) aR (cP _))
    (dG (eI 2 qt.nd (cy A2 (cO jv (pv 0) aR) (pv 1)))
    (dG (m6 (cy IV (cO jv (pv 0) aR) (pv 1)) (M6 (pv 0) aR MR))
    (cm (cj (pv 2))))) c_)
   (dG (m6 (cy A2 (cy iR (cy pP (cO jv (pv 0) aR) aR) aR) aR) (M6 (pv 0) aR MR))
   (cm (cj (cy A2 (cy IV (cy A2 (cy pP (cO jv (pv 0) aR) (cO jv (pv 0) aR)) aR) aR) (pv 1))))),?_⟩
  have e:∀{k:Hp}{l:List V},k p=some (.lst l)->bY K k p l:=λh=>bY.of h;have i:∀(d x y:Int),0<=d->d<(n:Int)->0<=x->0<=y->y<2^40->Q (.int d) (upd H p (.lst [.int x,.int y])):=λd x y L M B I u=>by
   have:=q d.toNat (upd H p (.lst [.int x,.int y])) 'a' bJ.upd ⟨x,y,aX,B,I,u⟩
   rwa [show((d.toNat:Nat):Int)=d by lia]at this
  have g:(0:Int)<n:=by lia
  refine⟨_,rfl,p,_,0,_,rfl,rfl,e c,rfl,_,_,rfl,rfl,_,rfl,?_⟩;refine dD (λD=>?_) (λD=>?_)
  ·refine⟨_,rfl,p,_,0,_,rfl,rfl,e c,rfl,_,rfl,_,_,rfl,rfl,g,?_⟩;refine⟨_,rfl,p,_,0,_,rfl,rfl,e c,rfl,_,rfl,_,_,rfl,rfl,⟨g,by lia⟩,_,rfl,p,_,0,0,rfl,rfl,c,rfl,?_⟩;refine⟨_,rfl,?_⟩;exact i _ _ _ (WX _ 'a') (Xz _ g) (Int.ediv_nonneg r 'a') hb v
  ·refine⟨_,rfl,p,_,1,_,rfl,rfl,e c,rfl,_,_,rfl,rfl,.inl ⟨by lia,by lia⟩,_,_,rfl,rfl,_,_,rfl,rfl,(by show(0:Int)<2147483587;decide),_,rfl,p,_,1,1,rfl,rfl,c,rfl,?_⟩;have G:0<=(b*39373+2003)%2147483587/\(b*39373+2003)%2147483587<2147483587:=⟨WX _ 'c',Xz _ 'c'⟩;refine⟨_,rfl,p,_,1,_,rfl,rfl,e aX,rfl,_,rfl,p,_,1,_,rfl,rfl,e aX,rfl,_,_,rfl,rfl,.inl ⟨?_,?_⟩,_,_,rfl,rfl,(by show(0:Int)<2147483563;decide),_,_,rfl,rfl,⟨by decide,by decide⟩,_,rfl,_,_,rfl,rfl,g,?_⟩
   ·show -(2^64)<(b*39373+2003)%2147483587;lia
   ·show(b*39373+2003)%2147483587<2^64;lia
   ·exact i _ _ _ (WX _ 'a') (Xz _ g) r G.1 'a'
theorem xf0:aE ["_law_purse_here","_law_may"] ["_law_purse_here","_law_may"] (cg HD):=cZ
def Uw:Sp:=λc H Q _=>∃(p m:ae)(a:List Nat),c=[.ref p,.ref m]/\ba H p/\H m=some (.lst (vN a))/\a≠[]/\a.length<=1000/\m≠p/\∀(x:Nat)(b:Hp),(x<2\/x∈a)->bJ p H b->ba b p->Q (.int (x:Nat)) b
theorem q32{f u:ae}{I C:ai}(F:aP K "_law_quarter" "_law_quarter" HD f I)(B:d_ mg)(r:mg "_law_draw"=some (.ref u))(e:aP K "_law_draw" "_law_draw" tR u C)(y:Binds K C ["_law_purse_here","_law_many"] []):
  aB P w K mg base aJ 2 f I ["_law_purse_here","_law_may"] Uw:=by
 have k:aB P w K mg base aJ 1 u C ["_law_purse_here","_law_many"] yv:=Ax e;refine F.ok xf0 (λR H Q E h=>?_) (λX A v s H R Q E l h=>?_)
 ·obtain⟨p,m,a,rfl,_⟩:=h
  rfl
 ·obtain⟨p,m,a,rfl,N,L,U,Y,c,q⟩:=h;have T:0<a.length:=Xq.mpr U;refine⟨_,dG (c9 (dI mY (bZ k l r e.kp y (aD (pv 0) (aD aR aH))) aR (cP _)) (cm (cj (bZ k l r e.kp y (aD (pv 0) (aD aR aH))))) c_)
   (cm (cj (cO jv (pv 1) (bZ k l r e.kp y (aD (pv 0) (aD (cQ iq 'd' B.len ZF (aD (pv 1) aH)) aH)))))),?_⟩
  refine⟨_,rfl,p,3,rfl,N,by decide,by decide,λd W V j J=>⟨rfl,_,rfl,?_⟩⟩;refine dD (λS=>?_) (λS=>?_)
  ·exact⟨_,rfl,p,2,rfl,J,by decide,by decide,λb D i g x=>q b D (.inl i) (j.trans g) x⟩
  ·have G:=j _ _ L c;refine⟨_,rfl,_,rfl,_,rfl,m,_,rfl,.inl (bY.of G),p,a.length,by rw[dM];rfl,J,T,by lia,λb D i g x=>?_⟩;have O:=g _ _ G c;have M:a[b]?=some a[b]:=by simp[i]
   exact⟨m,_,(b:Int),.int (a[b]:Nat),rfl,rfl,bY.of O,sj M,q _ D (.inr (YY i)) (j.trans g) x⟩
theorem iG:aE ["_law_rows_here","_law_depths_here","_law_row"] ["_law_rows_here"] (cg A8):=cZ
theorem cF.zs{H:Hp}{p:ae}{rows:List Row}(h:cF H p rows):ft H p rows:=let ⟨bs,a,b,c⟩:=h;⟨bs,.inr a,b,c⟩
def L5:Sp:=λb H Q _=>∃(p:ae)(rows:List Row),b=[.ref p]/\ft H p rows/\cz rows/\rows.length<=1190900/\∀a D,aC H a->a D=some (.lst (vN (fm rows)))->Q (.ref D) a
theorem TQ{f:ae}{R:ai}(F:aP K "_law_depths" "_law_depths" A8 f R)(B:d_ mg):aB P w K mg base aJ 1 f R ["_law_rows_here"] L5:=by
 refine F.ok iG (λvs H Q E h=>?_) (λbp A M s H vs Q E hr h=>?_)
 ·obtain⟨p,rows,rfl,_⟩:=h
  rfl
 ·obtain⟨p,rows,rfl,hR,ok,hn,q⟩:=h;refine⟨_,dG (eI 1 iG.nd (iI (aD aR (aD aR aH))))
   (dG (o_ Yj rfl (RM (pv 0)) (dj 2 iG.nd)
    (cm (ip (vo Ye Ym Yn tP (pv 1) (aD (cy iR aR (cQ (UQ rfl) 'd' B.max WH
     (aD (oB ["_law_rows_here","_law_depths_here","_law_row"] (cg A8) rfl rfl rfl iG.nd (sr (pv 2)) (λcl C fp aG aK=>cO (zk K rfl) (pv 2) (pv 0))) aH))) aH)))))
   (cm (cj (pv 1)))),?_⟩
  refine⟨(by show 2<=sizeLine;decide),λD S=>?_⟩;obtain⟨bs,hp,Z,X⟩:=id hR;have T:(bs.map V.ref).length=rows.length:=by rw[Ze];exact Z
  refine⟨_,rfl,p,rfl,TR (K:=K) (a:=p) (xs:=bs.map V.ref) (λi k d=>aC H d/\d D=some (.lst (vN (fm (rows.take i))))/\∃J,k=[some (.ref p),some (.ref D),J])
   (hp.elim (λh=>.inr λi k d ⟨c,_⟩=>aQ.of (c _ _ h)) (λh=>.inl λi k d ⟨c,_⟩=>bY.of (c _ _ h)))
   ⟨bF S,aX,none,rfl⟩ ?_ ?_⟩
  ·rintro i y k d N ⟨c,g,J,rfl⟩;have hi:i<rows.length:=by rw[<- T];exact(cx N).1
   rw[Zf]at N;obtain⟨b,hb,rfl⟩:=Zp.mp N;have G:rows[i]?=some rows[i]:=by simp[hi]
   have L:=c _ _ (X i b rows[i] hb G);have v:=ok i _ G;have U:(rows.take i).length=i:=by rw[ZT];lia
   have kH:∀x,x<i+2->(fm (rows.take i))[x]?=some (dp (rows.take i) x):=λx l=>AW (by rw[U];exact l);generalize rows[i]=r at G L v;refine⟨_,rfl,.inl ⟨rfl,_,bY.of g⟩,_,rfl,b,rfl,⟨_,aQ.of L⟩,λD2 kJ=>oG kJ (λj z _=>∃x,r[j]?=some x/\z=.int (dp (rows.take i) x:Nat)) (pA (K:=K) L) (by rw[dM,v.1];decide) (λ_ _ _ _ _ _ h=>h) ?_ ?_⟩
   ·intro j x H3 hj l I Q' hq;obtain⟨m,u,rfl⟩:=mZ l;have j8:=v.2 m (Zo u);exact⟨_,rfl,_,rfl,D,_,(m:Int),.int (dp (rows.take i) m:Nat),rfl,rfl,bY.of (I _ _ g),sj (kH m j8),hq _ _ (aC.refl _) ⟨m,u,rfl⟩⟩
   ·intro O H3 I jZ jU jS;have ey:O=(r.map (dp (rows.take i))).map (λn:Nat=>V.int (n:Int)):=by
     refine pz (by rw[jU,dM,Ze,Ze]) λj x l=>?_;obtain⟨m,u,rfl⟩:=jS j x l;rw[Zf,Zf,u];rfl
    have Y:O=((r.map (dp (rows.take i))).map (λn:Nat=>(n:Int))).map V.int:=ey.trans (si _);have W:r.map (dp (rows.take i))≠[]:=λz=>by
     have:=Yo List.length z;rw[Ze,v.1]at this;cases this
    refine⟨D2,(r.map (dp (rows.take i))).map (λn:Nat=>(n:Int)),rfl,Y▸jZ,λz=>W (Xs.mp z),_,_,rfl,rfl,?_⟩;rw[T9 W];have kY:=I _ _ g;refine⟨D,_,_,rfl,rfl,kY,?_,?_⟩
    ·rw[dM,sC,U];exact ml 'a'
    ·have nD:∀b o,H b=some o->b≠D:=λb o e=>ck e S;refine⟨λb o e=>by rw[bo (nD b o e)];exact I _ _ (c _ _ e),?_,_,rfl⟩;rw[aX,UO G];unfold vN;rw[ZW]
     rfl
  ·rintro k d ⟨c,g,J,rfl⟩;refine⟨_,rfl,q d D c ?_⟩;rw[T,Y9]at g;exact g
end
end Pr
namespace L2
open PySem
section
variable{X:Cx}
def xO9(t:TS):TS:=λD c H=>∃J:St->Hp->Prop,t {D with nx:=J} c H/\∀a b,J a b->D.nx a b
theorem Su{st:ay}{t:TS}(h:PS X st t):PS X st (xO9 t):=by
 intro k s d H D I g;obtain⟨J,h1,h2⟩:=g;refine Yz (h k s d H _ I h1) (λf l a=>?_) λ_ _ e=>e;cases f with
 |next=>
  obtain⟨b,i,c,j⟩:=a;exact⟨b,i,c,h2 _ _ j⟩
 |brk=>exact a
 |cont=>exact a
 |ret u=>exact a
variable{o e:ar}{es:List ar}{to:TE}{t:TA}{name:aq}{apos dU:aA}{id:String}{r:V->List V->Hp->VK->Prop}
end
end L2
namespace L2
open PySem PySem.Spec PyProof.Rows
theorem qr4{prog:ah}{w:ak}{A:au}{E:aa->af->Prop}{s:af}{t c:ae}{items:Array aa}{d e:aa}{lo b:Option Int}{Q:aa->af->Prop}(a:IsTup s.heap t items)(hs:s.heap.IsSliceOf c d e .none)(pl:IsPart d lo)(f:IsPart e b)
  (h0:HT.cI items.size 0 lo=0) (h1:HT.cI items.size items.size b=items.size) (h:Q (.ref t) s):ag (aj prog w) A (getItem (.ref t) (.ref c)) Q E s:=by
 obtain⟨k,j,g,l⟩:=id hs;have i:s.TypeIs (.ref c) "slice":=⟨k,j,g⟩;unfold getItem
 try with_reducible refine ZK ?_
 first|refine Za (Zc ?_)|skip
 refine Za (Wy a.typeIs 'c' ?_);refine Za (ZS (name:=Str.ofString "__getitem__") a.typeIs ZH
  (Z7 ZH a.typeIs We ?_ (Wp _ _)))
 show ag _ _ (Builtin.Tuple.tupleItemsOf (.ref t) >>= _) _ _ s;refine Za (tupleItemsOf_ a ?_);refine Za (Wz i ?_);rw[Zr 'c'];refine Za (HT.dP hs pl f ?_);show ag _ _ (if(((HT.cI items.size 0 lo:Nat):Int)==0&&(1:Int)==1&&(HT.cI items.size items.size b-HT.cI items.size 0 lo)==items.size)=true then _ else _) _ _ s;rw[Zr (by rw[h0,h1];simp)];refine Za ?_;unfold Builtin.Tuple.tupleIsExact;refine Za (Wz a.typeIs ?_);refine Zc ?_;rw[Zr 'c'];refine Za (XX ?_);exact Zc ⟨_,rfl,Zc h⟩
section
variable{X:Cx}
def LA(K:PySem.W.Frag):V->Option Int->Option Int->Hp->VK->Prop:=λx c d H Q=>∃a b,x=.ref a/\aQ K H a b/\HT.cI b.length 0 c=0/\HT.cI b.length b.length d=b.length/\Q (.ref a) H
theorem xB9:F_ X (LA X.K):=by
 intro w s p H x v C A m B u Q I i g l f h;obtain⟨a,k,rfl,j,e,h1,q⟩:=h;cases i;obtain⟨d,r,c,y⟩:=I.tuple j;have b:d.toArray.size=k.length:=by rw[Zx];exact r.length.symm
 refine⟨"tuple",_,ZH.lookup,c.typeIs,?_⟩;exact qr4 c g l f (by rw[b];exact e) (by rw[b];exact h1) ⟨.ref a,H,I,rfl,q⟩
theorem Ss:F_ X (λx c d H Q=>∃a b,x=.ref a/\H a=some (.tup b)/\∀p f,f p=some (.tup (dk b c d))->(f=H\/H p=none/\f=upd H p (.tup (dk b c d)))->Q (.ref p) f):=by
 intro r s i H x v y u c d j Q I m l w k h;obtain⟨a,b,ex,g,q⟩:=h;by_cases e:HT.cI b.length 0 c=0/\HT.cI b.length b.length d=b.length
 ·refine xB9 r s i H x v y u c d j Q I m l w k ⟨a,b,ex,aQ.of g,e.1,e.2,q a H ?_ (.inl rfl)⟩;have:dk b c d=b:=by unfold dk;rw[e.1,e.2];simp
  rw[this];exact g
 ·exact C_ r s i H x v y u c d j Q I m l w k ⟨a,b,ex,aQ.of g,e,λp A=>q p _ aX (.inr ⟨A,rfl⟩)⟩
theorem xp8:gF X (binaryOp .Add) (λx y H Q=>∃a b e,x=.ref a/\y=.ref b/\H a=some (.tup [])/\H b=some (.tup e)/\Q (.ref b) H):=by
 intro N s M H x y v u Q I B K h;obtain⟨a,b,e,rfl,rfl,r,hb,q⟩:=h;cases B;cases K;obtain⟨L,F,C,_⟩:=I.tuple (aQ.of r);obtain⟨J,P,E,_⟩:=I.tuple (aQ.of hb);cases F;obtain⟨⟨m,D,i,p⟩,f,l,n,d⟩:=id C;obtain⟨⟨O,G,c,w⟩,g,j,A,k⟩:=id E;simp only at l d j k;subst l d j k;exact concat_meets ⟨_,f,rfl⟩ ⟨_,g,rfl⟩ noFill_tuple_add seq_tuple_add Wx Wt (Wf _ _)
   (tuple_addW0 a b #[] J.toArray n A D G p w rfl) ⟨f,g,⟨.ref b,H,I,rfl,q⟩⟩
theorem u9:gF X (binaryOp .Add) (λx y H Q=>∃a b d c,x=.ref a/\y=.ref b/\H a=some (.tup d)/\H b=some (.tup c)/\d.length+c.length<=sizeLine /\
  ∀p f,f p=some (.tup (d++c))->(f=H\/H p=none/\f=upd H p (.tup (d++c)))->Q (.ref p) f):=by
 intro k s i H x y v u Q I j r h;obtain⟨a,b,d,c,ex,l,g,hb,A,q⟩:=h;by_cases m:d=[]
 ·subst m;exact xp8 k s i H x y v u Q I j r ⟨a,b,c,ex,l,g,hb,q b H hb (.inl rfl)⟩
 ·refine xw6 k s i H x y v u Q I j r ⟨a,b,d,c,ex,l,aQ.of g,aQ.of hb,m,A,λe=>?_,λ_ p w=>q p _ aX (.inr ⟨w,rfl⟩)⟩;subst e;exact q a H (by rw[XC];exact g) (.inl rfl)
end
end L2
namespace L2
open PySem
theorem dA.mono{p:ae->Prop}{H b:Hp}(h:dA p H)(s:aC H b):dA p b:=λa z=>let ⟨l,e⟩:=h a z;⟨l,s _ _ e⟩
theorem Mt{p:ae->Prop}{H:Hp}(h:dA p H):dW H (era p H):=λb a e=>IE h (aC.refl _) e
section
variable{p:ae->Prop}{H0:Hp}{σ:St}
theorem xf3{H:Hp}{xs:List V}{a:List PyData}(h:bb H xs a):bb H xs.reverse a.reverse:=by
 induction xs generalizing a with
 |nil=>cases h;exact .nil
 |cons x xs b=>
  cases h with
  |cons h1 h2=>
   rw[XU,XU];exact MV (b h2) (.cons h1 .nil)
theorem RL(f:dA p H0){K:PySem.W.Frag}{i:Nat}{v:V}{a:List PyData}(e:σ[i]?=some (some v))(h:aV (era p H0) v (.tuple a)):Yd p H0 σ (BU (mH K) (eh i) AH AH (Dt (K9 (rU λi=>.int (-i)) (tC (.int 1))))) (.tuple a.reverse):=λH s Q q=>by
 obtain⟨c,g,rfl,h1,d⟩:=AM (h.same (jz s));exact⟨_,e,⟨1,rfl,⟨_,rfl,⟨c,g,rfl,rfl,rfl,rfl,aQ.of (bh.mp h1).2,λb hb=>q _ _ (bF hb) (.tup (AA f s hb) (xf3 (d.same (jz (bF hb)))))⟩⟩⟩⟩
theorem xf4{K:PySem.W.Frag}{i:Nat}{c:ae}{xs:List V}{k:Int}(e:σ[i]?=some (some (.ref c)))(h:H0 c=some (.tup xs)):Yd p H0 σ (nh (om λi j=>.int (i+j)) (Av (fv K) (iN (eh i) hJ)) (tC (.int k))) (.int ((xs.length:Int)+k)):=λH s Q q=>
 ⟨_,e,⟨c,xs,rfl,.inr (aQ.of (s _ _ h)),⟨_,_,rfl,rfl,q _ _ (aC.refl _) (.int _)⟩⟩⟩
theorem xC0{te:TE}{i:Nat}{k:Ends}{H:Hp}(h:te σ H λv a=>k.nx (σ.set i (some v)) a):lu te (eZ i) k σ H:=h
theorem xp9{R:PyData->Prop}{k:Nat}{D:ae}{H a:Hp}(b:kj p R H0 k D H)(s:aC H a):kj p R H0 k D a:=by
 obtain⟨i,d,f,h,j,g,c,e⟩:=b;exact⟨i,d,f,h,j.trans s,s _ _ g,c,e⟩
theorem xC1{R:PyData->Prop}{k:Nat}{D:ae}{H:Hp}(b:kj p R H0 k D H):aC (era p H0) (era (λa=>p a\/a=D) H):=by
 obtain⟨q,j,f,g,h,m,i,l⟩:=b;intro a o e;obtain⟨d,e⟩:=bh.mp e;have c:=f _ _ e;exact bh.mpr ⟨λz=>z.elim d λy=>(by rw[y,g]at c;cases c),h _ _ c⟩
end
end L2
namespace Pr
open PySem L2 Qf
abbrev uJ(t:ae)(n tp:Nat)(a:ae)(x:Option V):St:=[some (.ref t),some (.int (n:Nat)),some (.int (tp:Nat)),some (.ref a),x]
section
variable{mg:aq->Option aa}{base:ao}
abbrev nOd:List aq:=["_law_shape_here","_law_n","_law_top","_law_rows_here","_law_odd_here"]
theorem lE:aE nOd ["_law_shape_here"] (cg t8):=cZ
inductive Cf(vs:List V)(H:Hp)(Q:VK):Prop
 |mk(pp t:ae)(n tp:Nat)(rows:List Row)(l:List V)(e0:vs=[.ref t])(e1:H pp=some (.lst l))(e2:cD H t n tp rows)(e3:Canon n tp rows)(e4:rows.length<=50)
  (q:∀H' D k,kj (λa=>a=pp) ki H k D H'->1<=k->k<=27->Q (.ref D) H')
def xM:Sp:=λa H Q _=>Cf a H Q
theorem xP0{f fD:ae}{fd eM:ai}(F:aP K "_law_odd" "_law_odd" t8 f fd)(B:d_ mg)
  (hD:mg "_law_depths"=some (.ref fD)) (FD:aP K "_law_depths" "_law_depths" A8 fD eM) (bD:Binds K eM ["_law_rows_here"] []):aB P w K mg base aJ 2 f fd ["_law_shape_here"] xM:=by
 have GD:aB P w K mg base aJ 1 fD eM ["_law_rows_here"] L5:=TQ FD B;refine F.ok lE (λvs H Q E h=>?_) (λbp A outer s H vs Q E hr h=>?_)
 ·obtain⟨j,t,n,d,rows,l,rfl,_⟩:=h
  rfl
 ·obtain⟨j,t,n,d,rows,l,rfl,vC,hT,x,c,q⟩:=h;have jC:aS 1 _:=hr.mono 'c';refine aO ⟨_,⟨m6 (pv 0) (pR rfl (e_ (dj 1 lE.nd) (e_ (dj 2 lE.nd) (e_ (dj 3 lE.nd) oz))))⟩,?_⟩;refine aO ⟨_,x_ (i:=4) lE.nd rfl (by first|left;rfl|right;rfl) ⟨(@iI _ _ _ _ (@cG.pa _ _ _ (cG.cons De (cG.cons aR (cG.cons nE (cG.cons (@iI _ _ _ _ (@cG.pa _ _ _ cG.nil)) (cG.cons MJ (cG.cons (BM (pv 1) (pv 2)) (cG.cons (hZ Ie 'd' B.list Yu (aD (pv 0) aH))
   (cG.cons (i9 (pv 1) (pv 2) (hZ Ie 'd' B.list Yu (aD (pv 3) aH))) (cG.cons (Gz (pv 1) (pv 2) (pv 3) aR) (cG.cons (i9 (pv 1) (Dv Dc aR) (pv 3)) cG.nil))))))))))))⟩ rfl rfl,?_⟩
  refine aO ⟨_,x_ (i:=4) lE.nd rfl (by first|left;rfl|right;rfl) ⟨cy C9 (pv 4) (df.go ⟨(@iI _ _ _ _ (@cG.pa _ _ _ (cG.cons (i9 (pv 1) (pv 2) (cy u9 (pv 3) (A7 (Gz aR aR aR aR)))) (cG.cons (i9 (pv 1) (pv 2) (cy u9 (pv 3) (A7 (Gz aR aR aR aR)))) (cG.cons (i9 (pv 1) (cy iR (cQ iq 'd' B.len ZF (aD (pv 3) aH)) aR) (pv 3)) cG.nil)))))⟩)⟩ rfl rfl,?_⟩;refine aO ⟨_,x_ (i:=4) lE.nd rfl (by first|left;rfl|right;rfl) ⟨cy C9 (pv 4) (df.go ⟨(@iI _ _ _ _ (@cG.pa _ _ _ (cG.cons (i9 aR (pv 2) (pv 3)) (cG.cons (i9 (Dv Dc aR) (pv 2) (pv 3)) (cG.cons (i9 js (pv 2) (pv 3)) (cG.cons (i9 (pv 1) js (kq (@cG.pa _ _ _ cG.nil))) (cG.cons (i9 (pv 1) (pv 2) De) (cG.cons (i9 (pv 1) nE (pv 3)) cG.nil))))))))⟩)⟩ rfl rfl,?_⟩;refine aO ⟨_,x_ (i:=4) lE.nd rfl (by first|left;rfl|right;rfl) ⟨cy C9 (pv 4) (df.go ⟨(@iI _ _ _ _ (@cG.pa _ _ _ (cG.cons (i9 (pv 1) (pv 2) (cy u9 (pv 3) (A7 (i9 aR aR aR)))) (cG.cons (i9 (pv 1) (pv 2) (cy u9 (pv 3) (A7 (@iI _ _ _ _ (@cG.pa _ _ _ (cG.cons aR (cG.cons aR (cG.cons aR (cG.cons aR cG.nil))))))))) (cG.cons (i9 (pv 1) (pv 2) (cy u9 (pv 3) (A7 (Gz aR aR aR De)))) cG.nil)))))⟩)⟩ rfl rfl,?_⟩;refine aO ⟨_,⟨Su (c9 (dI (xH5 jC) (pv 3) (df.go ⟨kq aH⟩) (cP _)) (cm (eI 4 lE.nd (cy C9 (pv 4) (df.go ⟨(@iI _ _ _ _ (@cG.pa _ _ _ (cG.cons (i9 (cy pQ (df.go ⟨cO jv (bZ GD jC hD FD.kp bD (aD (pv 3) aH)) (pv 2)⟩) aR) (pv 2) (pv 3)) (cG.cons (i9 (pv 1) (pv 2) (cy u9 (df.go ⟨MT RN (pv 3) pS pS (nF (Dv Dc aR))⟩) (pv 3))) (cG.cons (i9 (pv 1) aR (pv 3)) (cG.cons (i9 (pv 1) (pv 2) (kq (@cG.pa _ _ _ cG.nil))) cG.nil))))))⟩)))) c_)⟩,?_⟩;refine aO ⟨_,⟨Su (c9 (dI Du (cQ iq 'd' B.len ZF (aD (pv 3) aH)) aR (cP _)) (cm (ip (vo Ye Ym Yn tP (pv 4) (aD (df.go ⟨i9 (pv 1) (pv 2) (df.go ⟨MT RN (pv 3) pS pS (nF (Dv Dc aR))⟩)⟩) aH)))) c_)⟩,?_⟩;refine fV ⟨_,⟨cj (pv 4)⟩,?_⟩;have b:dA (λa=>a=j) H:=by intro a z;cases z;exact⟨_,vC⟩
  have s0:=aC.refl H;obtain⟨u,ht,wE⟩:=id hT;obtain⟨bs,h0,h1,h2⟩:=id wE;have lb:(bs.map V.ref).length=rows.length:=by rw[Ze];exact h1
  have C:aV (era (λa=>a=j) H) (.ref u) (.tuple (rows.map dR)):=by
   obtain⟨bs,h0,h1,h2⟩:=wE.mono (Mt b);exact .tup h0 (bb.of (AR h1 h2))
  have hTd:aV (era (λa=>a=j) H) (.ref t) (.tuple [.int (n:Nat),.int (d:Nat),.tuple (rows.map dR)]):=.tup (Mt b _ _ ht) (.cons (.int _) (.cons (.int _) (.cons C .nil)));have Y:(rows.map dR).length+1<=sizeLine:=by rw[Ze];exact Ys (oH 'a')
  have lr2:(rows.map dR).reverse.length+(rows.map dR).length<=sizeLine:=by rw[YF,Ze];exact Ys (oH 'a')
  refine⟨_,rfl,t,_,rfl,aQ.of ht,rfl,_,_,rfl,_,_,rfl,_,_,rfl,rfl,?_⟩;dsimp only[eZ];refine qE (σ':=(uJ t n d u none)) rfl ?_;refine Hq (xA8 (p:=λa=>a=j) (R:=ki) ?y0 ?l0 _ λD1 H1 Z=>?_)
  case l0=>show 10<=100;decide
  case y0=>exact⟨ik KD (vn λ_ _ _ e=>nomatch e),ik (iQ _) (vn λ_ _ _ e=>nomatch e),ik (RR _) (vn λ_ _ _ e=>nomatch e),ik (RP b .nil 'c') (vn λ_ _ _ e=>nomatch e),ik (xA7 b) (vn λ_ _ _ e=>nomatch e),ik (xO6 b (cW rfl (.int _)) (cW rfl (.int _))) (vn λ_ _ _ e=>nomatch e),ik (Sz b (cW rfl hTd)) (vn λ_ _ _ e=>nomatch e),ik (i8 b (cW rfl (.int _)) (cW rfl (.int _)) (Sz b (cW rfl C))) (mn (λds e=>nomatch e) λN S O L G I=>nomatch I),ik (Gy b (cW rfl (.int _)) (cW rfl (.int _)) (cW rfl C) (iQ _)) (vn λ_ _ _ e=>nomatch e),ik (i8 b (cW rfl (.int _)) (RQ _) (cW rfl C)) (mn (u_ c) λN S O L G I=>nomatch G),trivial⟩
  have Z:kj (λa=>a=j) ki H 10 D1 H1:=Z;have s1:=Z.same;have y:=b.mono s1;have kI:=C.same (jz s1);refine qE (σ':=(uJ t n d u (some (.ref D1)))) rfl ?_;refine Hq (ID Z rfl ?y1 ?l1 _ λD2 H2 U=>?_)
  case l1=>show 13<=100;decide
  case y1=>exact⟨ik (i8 y (cW rfl (.int _)) (cW rfl (.int _)) (uR y (cW rfl kI) (A6 y (Gy y (iQ _) (iQ _) (iQ _) (iQ _))) Y)) (Dh x c _),ik (i8 y (cW rfl (.int _)) (cW rfl (.int _)) (uR y (cW rfl kI) (A6 y (Gy y (iQ _) (iQ _) (iQ _) (iQ _))) Y)) (Dh x c _),ik (i8 y (cW rfl (.int _)) (xf4 rfl (s1 _ _ h0)) (cW rfl kI)) (by rw[lb];exact xe7 c),trivial⟩
  have U:kj (λa=>a=j) ki H 13 D2 H2:=U;have s2:=U.same;have J:=b.mono s2;have X:=C.same (jz s2);refine qE (σ':=(uJ t n d u (some (.ref D2)))) rfl ?_;refine Hq (ID U rfl ?y2 ?l2 _ λD3 H3 W=>?_)
  case l2=>show 19<=100;decide
  case y2=>exact⟨ik (i8 J (iQ _) (cW rfl (.int _)) (cW rfl X)) (xO8 (u_ c)),ik (i8 J (RQ _) (cW rfl (.int _)) (cW rfl X)) (mn (u_ c) λN S O L G I=>nomatch L),ik (i8 J (SW _) (cW rfl (.int _)) (cW rfl X)) (mn (u_ c) λN S O L G I=>nomatch L),ik (i8 J (cW rfl (.int _)) (SW _) (AV J .nil 'c')) (mn L6 λN S O L G I=>nomatch G),ik (i8 J (cW rfl (.int _)) (cW rfl (.int _)) KD) (mn (λds e=>nomatch e) λN S O L G I=>nomatch I),ik (i8 J (cW rfl (.int _)) (RR _) (cW rfl X)) (mn (u_ c) λN S O L G I=>nomatch G),trivial⟩
  have W:kj (λa=>a=j) ki H 19 D3 H3:=W;have s3:=W.same;have g:=b.mono s3;have Bs:=C.same (jz s3);refine qE (σ':=(uJ t n d u (some (.ref D3)))) rfl ?_;refine Hq (ID W rfl ?y3 ?l3 _ λD4 H4 b4=>?_)
  case l3=>show 22<=100;decide
  case y3=>exact⟨ik (i8 g (cW rfl (.int _)) (cW rfl (.int _)) (uR g (cW rfl Bs) (A6 g (i8 g (iQ _) (iQ _) (iQ _))) Y)) (Dh x c _),ik (i8 g (cW rfl (.int _)) (cW rfl (.int _)) (uR g (cW rfl Bs) (A6 g (RP g (.cons (iQ _) (.cons (iQ _) (.cons (iQ _) (.cons (iQ _) .nil)))) 'c')) Y)) (Dh x c _),ik (i8 g (cW rfl (.int _)) (cW rfl (.int _)) (uR g (cW rfl Bs) (A6 g (Gy g (iQ _) (iQ _) (iQ _) KD)) Y)) (Dh x c _),trivial⟩
  have b4:kj (λa=>a=j) ki H 22 D4 H4:=b4;clear Z U W y J g kI X Bs s1 s2 s3;refine qE (σ':=(uJ t n d u (some (.ref D4)))) rfl ?_;refine⟨λσ H'=>∃D k,σ=(uJ t n d u (some (.ref D)))/\kj (λa=>a=j) ki H k D H'/\22<=k/\k<=26,?_,?_⟩
  ·refine⟨_,rfl,by show 0<=sizeLine;decide,λe5 vT=>?_⟩;have s5:=bF (o:=.tup []) vT;have he:upd H4 e5 (.tup []) e5=some (.tup []):=aX;have m:=xp9 b4 s5;generalize upd H4 e5 (.tup [])=H5 at m he s5 ⊢;have S5:=m.same;have M:=b.mono S5;have y9:=C.same (jz S5);have uk:=wE.mono S5.cC;obtain⟨bs5,g0,g1,g2⟩:=id uk;refine⟨.tuple (rows.map dR),.tuple [],.tup g0 (AR g1 g2),.tup he .nil,?_,rfl,?_,?_⟩
   ·show PyData.canLayAll0 _=true;exact Mz rows
   ·have:=LH rows;show PyData.depthAll _+1<=60;exact ZN (Nat.succ_le_succ this) 'c'
   have ee:PyData.eqv (.tuple (rows.map dR)) (.tuple [])=decide (rows=[]):=by
    cases rows with
    |nil=>rfl
    |cons r rows=>rw[Zy 'b'];simp[PyData.eqv,PyData.eqvAll]
   rw[ee];refine⟨_,rfl,?_⟩;by_cases T:rows=[]
   ·rw[Zq T];exact b_ ⟨D4,22,rfl,m,by decide,by decide⟩
   rw[Zy T];refine cB (xC0 (ID m rfl ?y5 ?l5 _ λD6 H6 b6=>⟨D6,26,rfl,b6,by decide,by decide⟩))
   case l5=>show 26<=100;decide
   case y5=>
    exact⟨ik (i8 (a:=.int ((dp rows d:Nat)-1)) M (λH' s' Q' q'=>⟨_,rfl,⟨u,rows,rfl,(uk.mono s'.cC).zs,x.gA,by lia,λH2 DD s2 hD=>⟨_,rfl,⟨DD,_,(d:Int),.int (dp rows d:Nat),rfl,rfl,bY.of hD,kr (by unfold vN;rw[Zf,AW x.gp];rfl),⟨_,_,rfl,rfl,q' _ _ s2 (.int _)⟩⟩⟩⟩⟩) (cW rfl (.int _)) (cW rfl y9)) (xB4 x T c rfl),ik (i8 M (cW rfl (.int _)) (cW rfl (.int _)) (uR M (RL M rfl y9) (cW rfl y9) lr2)) (by rw[<- List.map_reverse];exact xp4 T c),ik (i8 M (cW rfl (.int _)) (iQ _) (cW rfl y9)) (xB5 T c),ik (i8 M (cW rfl (.int _)) (cW rfl (.int _)) (AV M .nil 'c')) (xp5 x T),trivial⟩
  ·rintro σ H5 ⟨D5,k5,rfl,m,k1,k2⟩;have S5:=m.same;have uk:=wE.mono S5.cC;obtain⟨bs5,g0,g1,g2⟩:=id uk;refine⟨λσ H'=>∃D k,σ=(uJ t n d u (some (.ref D)))/\kj (λa=>a=j) ki H k D H'/\22<=k/\k<=27,?_,?_⟩
   ·refine⟨_,rfl,⟨u,_,rfl,.inr (aQ.of g0),?_⟩⟩;refine⟨_,_,rfl,rfl,_,rfl,?_⟩;by_cases hm:1<rows.length
    ·refine Dx (by rw[Ze,g1];lia) ?_;have Jm:=xJ4 b m;have hRD:=C.same (xC1 m);refine⟨_,rfl,?_⟩;have y3:=i8 (σ:=(uJ t n d u (some (.ref D5)))) Jm (cW (i:=1) rfl (.int (n:Nat))) (cW (i:=2) rfl (.int (d:Nat))) (RL (K:=K) (i:=3) Jm rfl hRD);obtain⟨xs5,_,_,_,_,yD,_⟩:=id m;refine⟨.inl ⟨rfl,_,bY.of yD⟩,?_⟩;refine y3 H5 (aC.refl _) _ λv H6 s6 d6=>?_;obtain⟨xs,zA,lx,b6⟩:=xA9 m s6 d6 (by rw[<- List.map_reverse];exact xB6 x hm c);exact⟨D5,xs,v,rfl,rfl,zA,by rw[lx];exact oH 'a',D5,k5+1,rfl,b6,by lia,by lia⟩
    ·exact qC (by rw[Ze,g1];lia) ⟨D5,k5,rfl,m,k1,by lia⟩
   ·rintro σ H6 ⟨D6,k6,rfl,b6,k1,k2⟩;exact⟨_,rfl,q H6 D6 k6 b6 'a' k2⟩
end
theorem U_{H:Hp}:∀(k:Nat){b:List V}{a:List PyData},bb H b a->bb H (b.take k) (a.take k)
 |0,_,_,_=>.nil
 |_+1,_,_,.nil=>.nil
 |k+1,_,_,.cons h r=>.cons h (U_ k r)
theorem Uv{H:Hp}{v:V}{d:PyData}(b:aV H v d):∀(k:Nat){c:List V}{a:List PyData},bb H c a->bb H (c.set k v) (a.set k d)
 |_,_,_,.nil=>.nil
 |0,_,_,.cons h r=>.cons b r
 |k+1,_,_,.cons h r=>.cons h (Uv b k r)
theorem xP1{p:ae->Prop}{H0:Hp}{σ:St}(A:dA p H0){i j k:Nat}{v:V}{a:List PyData}(e:σ[i]?=some (some v))(h:aV (era p H0) v (.tuple a))(w:σ[j]?=some (some (.int (k:Nat))))(y:k<=a.length):
  Yd p H0 σ (Hh (λx g l H Q=>∃a d,x=.ref a/\H a=some (.tup d)/\∀p b,b p=some (.tup (dk d g l))->(b=H\/H p=none/\b=upd H p (.tup (dk d g l)))->Q (.ref p) b) (eh i) AH (Dt (eh j))) (.tuple (a.take k)):=λH s Q q=>by
 obtain⟨u,d,rfl,h1,m⟩:=AM (h.same (jz s));refine⟨_,e,_,w,_,rfl,u,d,rfl,(bh.mp h1).2,λc b r o=>?_⟩;have f:aC H b:=L8 o;rw[RS (by rw[m.length];exact y)]at r;exact q _ _ f (.tup (IE A (s.trans f) r) (U_ k (m.same (jz f))))
theorem xP2{p:ae->Prop}{H0:Hp}{σ:St}(A:dA p H0){i j k:Nat}{v:V}{a:List PyData}(e:σ[i]?=some (some v))(h:aV (era p H0) v (.tuple a))(w:σ[j]?=some (some (.int (k:Nat))))(y:k+1<=a.length):
  Yd p H0 σ (Hh (λx g l H Q=>∃a d,x=.ref a/\H a=some (.tup d)/\∀p b,b p=some (.tup (dk d g l))->(b=H\/H p=none/\b=upd H p (.tup (dk d g l)))->Q (.ref p) b) (eh i) (Dt (nh (om λi j=>.int (i+j)) (eh j) (tC (.int 1)))) AH) (.tuple (a.drop (k+1))):=λH s Q q=>by
 obtain⟨u,d,rfl,h1,m⟩:=AM (h.same (jz s));refine⟨_,e,_,w,_,_,rfl,rfl,_,rfl,u,d,rfl,(bh.mp h1).2,λc b r o=>?_⟩;have f:aC H b:=L8 o;rw[show((k:Nat):Int)+1=((k+1:Nat):Int)from rfl,TV (by rw[m.length];exact y)]at r;exact q _ _ f (.tup (IE A (s.trans f) r) (VA (k+1) (m.same (jz f))))
theorem xP3{a b:PyData}{A B:List PyData}{x:PyData}(d:A.length+1+B.length<=900)(no:∀r,x=dR r->¬yn A.length r):ki (.tuple [a,b,.tuple (A++[x]++B)]):=by
 refine mn (λm e=>?_) λi q k j p g h=>?_
 ·injection e with e
  rw[<- e,Zk,Zk];exact d
 ·have e:=YR g;have c:=Yo (λl:List PyData=>l[A.length]?) e;rw[Z6,Zs (Zg _),W2,Zf]at c;obtain⟨r,f,ex⟩:=Zp.mp c.symm;exact no r ex.symm (h.gA _ r f)
theorem xK0{k j:Nat}{r:Row}{d:PyData}(i:r.length=4)(l:j<4)(f:∀y:Nat,d=.int (y:Nat)->k+2<=y):∀a,PyData.tuple (((r.map λx:Nat=>(x:Int)).map PyData.int).set j d)=dR a->¬yn k a:=λa e c=>by
 have e:=YR e;have b:d∈((r.map λx:Nat=>(x:Int)).map PyData.int).set j d:=by
  refine List.mem_iff_getElem?.mpr ⟨j,?_⟩;rw[Xx (by rw[Ze,Ze];lia)]
 rw[e,Xm]at b;obtain⟨y,h,g⟩:=ZV.mp b;have h1:=f y g.symm;have h2:=c.2 y h;lia
abbrev Aw(p t:ae)(n tp:Nat)(a:ae)(x y z:Option V):St:=[some (.ref p),some (.ref t),some (.int (n:Nat)),some (.int (tp:Nat)),some (.ref a),x,y,z]
section
variable{mg:aq->Option aa}{base:ao}
abbrev nSp:List aq:=["_law_purse_here","_law_shape_here","_law_n","_law_top","_law_rows_here","_law_at","_law_quarter_here","_law_row"]
theorem o7:aE nSp ["_law_purse_here","_law_shape_here"] (cg HA):=cZ
inductive Cc(vs:List V)(H:Hp)(Q:VK):Prop
 |mk(p t:ae)(n tp:Nat)(rows:List Row)(e0:vs=[.ref p,.ref t])(e1:ba H p)(e2:cD H t n tp rows)(e3:Canon n tp rows)(e4:rows.length<=50)
  (q:∀H' v d,bJ p H H'->ba H' p->aV (era (λa=>a=p) H') v d->ki d->Q v H')
def xH:Sp:=λa H Q _=>Cc a H Q
theorem xP4{f fD:ae}{fd eM:ai}(F:aP K "_law_spoiled" "_law_spoiled" HA f fd)(B:d_ mg)
  (hD:mg "_law_draw"=some (.ref fD)) (FD:aP K "_law_draw" "_law_draw" tR fD eM) (bD:Binds K eM ["_law_purse_here","_law_many"] []):aB P w K mg base aJ 2 f fd ["_law_purse_here","_law_shape_here"] xH:=by
 have GD:aB P w K mg base aJ 1 fD eM ["_law_purse_here","_law_many"] yv:=Ax FD;refine F.ok o7 (λvs H Q E h=>?_) (λbp A outer s H vs Q E hr h=>?_)
 ·obtain⟨p,t,n,u,rows,rfl,_⟩:=h
  rfl
 ·obtain⟨p,t,n,u,rows,rfl,hP,hT,cn,hl,q⟩:=h;have W:aS 1 _:=hr.mono 'c';refine aO ⟨_,⟨m6 (pv 1) (pR rfl (e_ (dj 2 o7.nd) (e_ (dj 3 o7.nd) (e_ (dj 4 o7.nd) oz))))⟩,?_⟩;refine aO ⟨_,⟨c9 (dI (Iu W) (pv 4) (kq aH) (cP _)) (cm (cj (i9 (pv 2) aR (pv 4)))) c_⟩,?_⟩;refine aO ⟨_,⟨xF5 (i:=5) (j:=6) rfl o7.nd rfl rfl 'c' rfl rfl (cw.go (.cons ⟨bZ GD W hD FD.kp bD (cw.go (.cons ⟨pv 0⟩ (.cons ⟨cQ iq 'd' B.len ZF (aD (pv 4) aH)⟩ .nil rfl) rfl))⟩ (.cons ⟨bZ GD W hD FD.kp bD (aD (pv 0) (aD aR aH))⟩ .nil rfl) rfl)) rfl⟩,?_⟩;refine aO ⟨_,⟨eI 7 o7.nd (df.go ⟨hZ Ie 'd' B.list Yu (aD (cO gb (pv 4) (pv 5)) aH)⟩)⟩,?_⟩;refine aO ⟨_,⟨m6 (cO jv (@iI _ _ _ _ (@cG.pa _ _ _ (cG.cons (cy iR (pv 5) aR) (cG.cons (cy iR (cQ iq 'd' B.len ZF (aD (pv 4) aH)) aR) (cG.cons (Dv Dc aR) (cG.cons js (cG.cons De (cG.cons nE cG.nil)))))))) (df.go ⟨bZ GD W hD FD.kp bD (aD (pv 0) (aD aR aH))⟩)) (M6 (pv 7) (pv 6) MR)⟩,?_⟩;refine fV ⟨_,⟨cj (i9 (pv 2) (pv 3) (df.go ⟨cy u9 (cy u9 (tO Ss (pv 4) pS (nF (pv 5))) (A7 (hZ (l6 K rfl) 'd' B.tuple ZE (aD (pv 7) aH)))) (tO Ss (pv 4) (nF (cy iR (pv 5) aR)) pS)⟩))⟩,?_⟩;obtain⟨pa,pb,vC,w4⟩:=id hP;have jV:dA (λa=>a=p) H:=by intro a z;cases z;exact⟨_,vC⟩
  obtain⟨g,ht,wE⟩:=id hT;obtain⟨bs,m,h1,h2⟩:=id wE;have lb:(bs.map V.ref).length=rows.length:=by rw[Ze];exact h1
  have hR:aV (era (λa=>a=p) H) (.ref g) (.tuple (rows.map dR)):=by
   obtain⟨bs,m,h1,h2⟩:=wE.mono (Mt jV);exact .tup m (bb.of (AR h1 h2))
  refine⟨_,rfl,t,_,rfl,aQ.of ht,rfl,_,_,rfl,_,_,rfl,_,_,rfl,rfl,?_⟩;refine⟨_,rfl,by show 0<=sizeLine;decide,λe5 vT=>?_⟩;have C:=bF (o:=.tup []) vT;have he:upd H e5 (.tup []) e5=some (.tup []):=aX;generalize upd H e5 (.tup [])=H5 at he C ⊢;have N:=hP.same C;have kM:=jV.mono C;have y9:=hR.same (jz C);have b5:bJ p H H5:=bJ.of C;refine⟨.tuple (rows.map dR),.tuple [],.tup (C _ _ m) (AR h1 λi b r e1 e2=>C _ _ (h2 i b r e1 e2)),.tup he .nil,?_,rfl,?_,?_⟩
  ·show PyData.canLayAll0 _=true;exact Mz rows
  ·have:=LH rows;show PyData.depthAll _+1<=60;exact ZN (Nat.succ_le_succ this) 'c'
  have ee:PyData.eqv (.tuple (rows.map dR)) (.tuple [])=decide (rows=[]):=by
   cases rows with
   |nil=>rfl
   |cons r rows=>rw[Zy 'b'];simp[PyData.eqv,PyData.eqvAll]
  rw[ee];refine⟨_,rfl,?_⟩;by_cases jH:rows=[]
  ·rw[Zq jH];refine cB ?_;subst jH;have y3:=i8 (σ:=(Aw p t n u g none none none)) kM (cW (i:=2) rfl (.int (n:Nat))) (iQ 2) (cW (i:=4) rfl y9);refine y3 H5 (aC.refl _) _ λv H6 s6 d6=>q H6 v _ (b5.trans (bJ.of s6)) (N.same s6) d6 (mn L6 λn' bu aN e0 e1 e2 c'=>?_);have:aN=[]:=Xs.mp (YR e2).symm;subst this;have:=Ux c';have:=Yv e1;lia
  rw[Zy jH];refine b_ ?_;have pG:=Xq.mpr jH;refine⟨_,rfl,_,rfl,⟨g,_,rfl,.inr (aQ.of (C _ _ m)),p,rows.length,by rw[lb];rfl,N,pG,by lia,λa H6 ha b6 R=>?_⟩⟩;refine⟨_,rfl,p,4,rfl,R,by decide,by decide,λj H7 hj b7 T=>⟨_,_,rfl,?_⟩⟩;dsimp only[eZ];refine qE (σ':=(Aw p t n u g (some (.int (a:Nat))) (some (.int (j:Nat))) none)) rfl ?_;have I:bJ p H H7:=b5.trans (b6.trans b7);have Nx:∀{x:ae}{l:List V},H x=some (.tup l)->x≠p:=λh=>Dw h vC (λz=>nomatch z);have h07:=I _ _ m (Nx m);have Br:=hR.same (L7 (λ_ z=>z) I);obtain⟨r,hr⟩:∃r,rows[a]?=some r:=⟨_,Zd ha⟩;obtain⟨b,hb⟩:∃b,bs[a]?=some b:=⟨_,Zd 'a'⟩;have vZ:=h2 a b r hb hr;have OH:=I _ _ vZ (Nx vZ);have Jk:r.length=4:=(cn.gA a r hr).1;refine⟨_,rfl,_,rfl,g,_,(a:Int),.ref b,rfl,rfl,aQ.of h07,kr (by rw[Zf,hb];rfl),?_⟩;refine⟨b,_,rfl,.inr (aQ.of OH),λL J=>?_⟩;have s8:=bF (o:=.lst (vN r)) J;have O:upd H7 L (.lst (vN r)) L=some (.lst (vN r)):=aX;have Jz:H L=none:=by
   cases e:H L with
   |none=>rfl
   |some o=>
    by_cases z:L=p
    ·subst z;obtain⟨x,y,e',_⟩:=T;rw[e']at J;cases J
    ·rw[I _ _ e z]at J;cases J
  have B8:bJ p H (upd H7 L (.lst (vN r))):=I.trans (bJ.of s8);have Qb:=(R:ba H6 p);generalize upd H7 L (.lst (vN r))=H8 at s8 O B8 ⊢;have Qb:ba H8 p:=T.same s8;dsimp only[eZ];refine qE (σ':=(Aw p t n u g (some (.int (a:Nat))) (some (.int (j:Nat))) (some (.ref L)))) rfl ?_;have h08:=B8 _ _ m (Nx m);refine⟨_,rfl,_,_,rfl,rfl,_,rfl,⟨g,_,rfl,.inr (aQ.of h08),?_⟩⟩;refine⟨_,_,rfl,rfl,1,rfl,by show 6<=sizeLine;decide,λM hM=>?_⟩;rw[lb];have s9:=bF (o:=.lst [.int ((a:Int)+2),.int ((rows.length:Int)+2),.int (-1),.bl true,.cA,.str "0"]) hM;have Jy:upd H8 M (.lst [.int ((a:Int)+2),.int ((rows.length:Int)+2),.int (-1),.bl true,.cA,.str "0"]) M=some (.lst [.int ((a:Int)+2),.int ((rows.length:Int)+2),.int (-1),.bl true,.cA,.str "0"]):=aX;have Z:=s9 _ _ O;have Jx:=Qb.same s9;have B9:=B8.trans (bJ.of s9);have hMp:M≠p:=λz=>by
   subst z;obtain⟨x,y,e',_⟩:=Qb;rw[e']at hM;cases hM
  have S:L≠p:=λz=>by rw[z,vC]at Jz;cases Jz
  refine(λ(go:∀U,U M=some (.lst [.int ((a:Int)+2),.int ((rows.length:Int)+2),.int (-1),.bl true,.cA,.str "0"])->U L=some (.lst (vN r))->ba U p->bJ p H U->_)=>go _ Jy Z Jx B9) ?_;clear Jy Z Jx B9 s9;intro U Jy Z Jx B9;refine⟨_,rfl,p,6,rfl,Jx,by decide,by decide,λi Ak hi BD Qc=>?_⟩;have Gn:=B9.trans BD;have Qd:=BD _ _ Jy hMp;have Qh:=BD _ _ Z S;obtain⟨v,d,hv,hvd,hd⟩:∃v d,[V.int ((a:Int)+2),.int ((rows.length:Int)+2),.int (-1),.bl true,.cA,.str "0"][i]?=some v/\(∀G:Hp,aV G v d)/\∀y:Nat,d=.int (y:Nat)->a+2<=y:=by
   match i,hi with
   |0,_=>exact⟨_,_,rfl,λG=>.int _,λy e=>by have:=Yv e;lia⟩
   |1,_=>exact⟨_,_,rfl,λG=>.int _,λy e=>by have:=Yv e;lia⟩
   |2,_=>exact⟨_,_,rfl,λG=>.int _,λy e=>nomatch e⟩
   |3,_=>exact⟨_,_,rfl,λG=>.bl _,λy e=>nomatch e⟩
   |4,_=>exact⟨_,_,rfl,λG=>.cA,λy e=>nomatch e⟩
   |5,_=>exact⟨_,_,rfl,λG=>.str _,λy e=>nomatch e⟩
  refine⟨M,_,(i:Int),v,rfl,rfl,bY.of Qd,kr hv,_,rfl,_,rfl,?_⟩;refine⟨L,vN r,(j:Int),j,rfl,rfl,Qh,?_,?_⟩
  ·rw[dM,Jk];unfold wz;rw[Zr 'a',Zr 'a',YU]
  have zL:upd Ak L (.lst ((vN r).set j v)) L=some (.lst ((vN r).set j v)):=aX;have Rr:bJ p H (upd Ak L (.lst ((vN r).set j v))):=λb o e n=>by
   rw[bo (λz=>by rw[z,Jz]at e;cases e)];exact Gn b o e n
  have zK:ba (upd Ak L (.lst ((vN r).set j v))) p:=by
   obtain⟨x,y,e,z⟩:=Qc;exact⟨x,y,by rw[bo S.symm];exact e,z⟩
  generalize upd Ak L (.lst ((vN r).set j v))=Y at zL Rr zK ⊢;have D:dA (λx=>x=p\/x=L) Y:=by
   rintro x (z|z)
   ·cases z;obtain⟨x,y,e,_⟩:=zK;exact⟨_,e⟩
   ·cases z;exact⟨_,zL⟩
  have eL:aC (era (λx=>x=p) H) (era (λx=>x=p\/x=L) Y):=λb o e=>by
   obtain⟨n1,e⟩:=bh.mp e;exact bh.mpr ⟨λz=>z.elim n1 λy=>(by rw[y,Jz]at e;cases e),Rr b o e n1⟩
  have Fe:=hR.same eL;have la:(rows.map dR).length=rows.length:=Ze _;have yt:=xP1 (σ:=(Aw p t n u g (some (.int (a:Nat))) (some (.int (j:Nat))) (some (.ref L)))) (i:=4) (j:=5) D rfl Fe rfl (k:=a) 'a';have yf:=xP2 (σ:=(Aw p t n u g (some (.int (a:Nat))) (some (.int (j:Nat))) (some (.ref L)))) (i:=4) (j:=5) D rfl Fe rfl (k:=a) 'a';have yr:Yd (λx=>x=p\/x=L) Y (Aw p t n u g (some (.int (a:Nat))) (some (.int (j:Nat))) (some (.ref L))) (Av (de K) (iN (eh 7) hJ)) (.tuple (((r.map λx:Nat=>(x:Int)).map PyData.int).set j d)):=λH' s' Q' q'=>
   ⟨_,rfl,⟨L,_,rfl,.inl ⟨bY.of (s' _ _ zL),λc hc=>q' _ _ (bF hc) (.tup (AA D s' hc) (by rw[si];exact Uv (hvd _) j (bb.of (aT.ints _))))⟩⟩⟩
  have X:((rows.map dR).take a).length=a:=by rw[ZT,la];lia
  have lB:((rows.map dR).drop (a+1)).length=rows.length-(a+1):=by rw[Z3,la]
  have y3:=i8 D (cW (i:=2) rfl (.int (n:Nat))) (cW (i:=3) rfl (.int (u:Nat))) (uR D (uR D yt (A6 D yr) (by rw[X];exact Ys (oH (by show a+1<=1000;lia)))) yf (by rw[Zk,X,lB];exact Ys (oH (by show a+1+(rows.length-(a+1))<=1000;lia))));refine y3 Y (aC.refl _) _ λv2 H12 Ts JL=>?_;refine q H12 v2 _ (Rr.trans (bJ.of Ts)) (zK.same Ts) (JL.same λb o e=>bh.mpr ⟨λz=>(bh.mp e).1 (.inl z),(bh.mp e).2⟩) (xP3 (by rw[X,lB];lia) λr' e=>?_);rw[X];exact xK0 Jk hj hd r' e
end
def iD(K:PySem.W.Frag)(a:ae)(xs:List V):Prop:=∃(o:aw)(b:Array aa)(n:Nat),K.lookup a=some o/\o.cls=.type "tuple" /\ o.data=.seq b n/\b.size<=sizeLine/\Vals xs b.toList
end Pr
namespace iZ
open PySem PySem.Spec
structure Ap(z I O a b:ae):Prop where
 Iz:I≠z
 Oz:O≠z
 az:a≠z
 bz:b≠z
 IO:I≠O
 Ia:I≠a
 Ib:I≠b
 Oa:O≠a
 Ob:O≠b
 ab:a≠b
theorem yu{h h':ao}{t:ae}{a:Array aa}(x:h.IsTuple t a)(k:∀o,h.get? t=some o->h'.get? t=some o):h'.IsTuple t a:=let ⟨o,e,r⟩:=x;⟨o,k o e,r⟩
abbrev qD(h:ao)(z TI TO:ae)(a:aa)(g:Bool):Prop:=
 h.get? z=some {cls:=.type "zip",dict:=none,data:=.fields #[a,.bool g,.bool false,.ref TI,.ref TO],slots:=#[]}
structure At(h:ao)(z I O a b p q:ae)(n:Nat):Prop where
 zp:∃f g,(f=.none\/∃t0:Nat,f=rawInt t0)/\qD h z I O f g
 pr:IsPair h I (.ref a) (.ref b)
 ow:∃x y,IsPair h O x y
 ia:h.IsTupleIter a p n
 ib:h.IsTupleIter b q n
section
variable{z I O a b p q:ae}{n:Nat}{xs ys:Array aa}
theorem RK{Q:Bool->af->Prop}{f:aa}{g:Bool}(r:f=.none\/∃d:Nat,f=rawInt d)(j:qD s.heap z I O f g)(k1:Q true s)
  (k2:∀i C,qD i z I O f C->(∀c u,c≠z->s.heap.get? c=some u->i.get? c=some u)->i.objs.size=s.heap.objs.size->Q false {s with heap:=i}):ag (aj prog w) A (Builtin.SmallTypes.ownedTupleIsFree (.ref z)) Q E s:=by
 unfold Builtin.SmallTypes.ownedTupleIsFree;rcases r with rfl|⟨d,rfl⟩
 ·exact Za (ZP j rfl (x:=.none) rfl (Zc k1))
 refine Za (ZP j rfl (x:=rawInt d) rfl ?_);show ag _ _ (loadIfAlive ((d:Int).toNat) >>= _) _ _ _;have v:∀{l:Option aw->af->Prop},l (s.heap.get? (d:Int).toNat) s->ag (aj prog w) A (loadIfAlive ((d:Int).toNat)) l E s:=λi=>λ_ _ _=>i;refine Za (v ?_);refine YK (λ_=>Zc k1) (λ_=>?_);refine Za (ZP j rfl (x:=.bool g) rfl ?_);cases g with
 |false=>
  refine YK (λ_=>?_) (λh=>absurd 'c' h);refine Za (Yb j 'b' λm y k=>?_);exact Zc (k2 m true y (λc u B e=>k.extBut c u B e) k.1)
 |true=>
  refine YK (λh=>absurd h 'c') (λ_=>?_);exact Zc (k2 _ true j (λ_ _ _ e=>e) rfl)
theorem item{x y:aa}{Q:aa->af->Prop}(D:Ap z I O a b)(Z:At s.heap z I O a b p q n)(m:∀c,c=z\/c=O\/c=a\/c=b->c≠p/\c≠q)(hp:s.heap.IsTuple p xs)(hq:s.heap.IsTuple q ys)(hx:xs[n]?=some x)(hy:ys[n]?=some y)
  (k:∀P,At P z I O a b p q (n+1)->IsPair P s.heap.objs.size x y->(∀c u,c≠z->c≠O->c≠a->c≠b->s.heap.get? c=some u->P.get? c=some u)->Q (.ref s.heap.objs.size) {s with heap:=P}):
  ag (aj prog w) A (Builtin.«zip.__next__» ⟨[.ref z],[]⟩) (λfin s'=>∃v,fin=.done (.ret v)/\Q v s') E s:=by
 obtain⟨⟨f,g,hf,J⟩,X,⟨x0,T,ow⟩,ia,ib⟩:=Z;show ag _ _ (field (.ref z) 2 >>= _) _ _ _;refine Za (ZP J rfl (x:=.bool false) rfl ?_);show ag _ _ (field (.ref z) 3 >>= _) _ _ _;refine Za (ZP J rfl (x:=.ref I) rfl (Za (Xb X rfl ?_)));show ag _ _ (Builtin.SmallTypes.ownedTupleIsFree (.ref z) >>= _) _ _ _;refine Za (RK hf J ?_ λS gg H h jo=>?_)
 ·simp only[Yt];refine Za (XX (Za (ZP J rfl (x:=.ref O) rfl (Za (Yb J 'b' λS H h=>?_)))))
  replace H:qD S z I O .ellipsis g:=H
  refine Za ?_;simp only[Vn,List.zipIdx_nil,Y3,WE];refine Za (Za (wpAny_onRaise ?_));have jJ:=yu hp λu e=>h.extBut p u (m z (.inl rfl)).1.symm e;have zm:S.IsTupleIter a p n:=ia.at λu e=>h.extBut a u D.az e;show ag _ _ (Builtin.SmallTypes.nextOf (.ref a) >>= _) _ _ _;refine Za (gh.dy zm jJ hx λg2 Y i=>Zc ?_);have X_:IsPair g2 O x0 T:=i.extBut _ _ D.Oa (h.extBut _ _ D.Oz ow);refine Za (Xb X_ rfl (Za (wpAny_updateSeq_pair X_ λB Nh l=>Za (wpAny_letGo (Zc ?_)))))
  replace Nh:IsPair B O x T:=Nh
  refine Za (Za (wpAny_onRaise ?_));have hq3:=yu hq λu e=>l.extBut q u (m O (.inr (.inl rfl))).2.symm (i.extBut q u (m a (.inr (.inr (.inl rfl)))).2.symm (h.extBut q u (m z (.inl rfl)).2.symm e));have Og:B.IsTupleIter b q n:=ib.at λu e=>l.extBut b u D.Ob.symm (i.extBut b u D.ab.symm (h.extBut b u D.bz e));show ag _ _ (Builtin.SmallTypes.nextOf (.ref b) >>= _) _ _ _;refine Za (gh.dy Og hq3 hy λg4 W G=>Zc ?_);have W_:IsPair g4 O x T:=G.extBut _ _ D.Ob Nh;refine Za (Xb W_ rfl (Za (wpAny_updateSeq_pair W_ λd R F=>Za (wpAny_letGo (Zc (Zc ?_))))))
  replace R:IsPair d O x y:=R
  refine Za (Xb R rfl (Za (wpAny_newTuple ?_)));have uM:d.objs.size=s.heap.objs.size:=by rw[F.1,G.1,l.1,i.1,h.1]
  have FV:∀c u,c≠z->c≠O->c≠a->c≠b->s.heap.get? c=some u->d.get? c=some u:=λc u j C r K e=>F.extBut _ _ C (G.extBut _ _ K (l.extBut _ _ C (i.extBut _ _ r (h.extBut _ _ j e))));have Rv:qD d z I O .ellipsis g:=F.extBut _ _ D.Oz.symm (G.extBut _ _ D.bz.symm (l.extBut _ _ D.Oz.symm (i.extBut _ _ D.az.symm H)));have V:d.IsTupleIter a p (n+1):=Y.at λu e=>F.extBut a u D.Oa.symm (G.extBut a u D.ab (l.extBut a u D.Oa.symm e));have ib5:d.IsTupleIter b q (n+1):=W.at λu e=>F.extBut b u D.Ob.symm e;have Rw:=Zl Rv;show ag _ _ (Builtin.SmallTypes.ownedTupleHandOut (.ref z) (.ref d.objs.size) >>= _) _ _ _;refine Za ?_;unfold Builtin.SmallTypes.ownedTupleHandOut;have zp6:qD (d.push {cls:=.type "tuple",data:=.seq #[x,y]}) z I O .ellipsis g:=Zb _ Rv;refine Za (Yb zp6 'b' λg7 J5 u7=>?_)
  replace J5:qD g7 z I O (rawInt d.objs.size) g:=J5
  refine Yb J5 'b' λN U u8=>?_
  replace U:qD N z I O (rawInt d.objs.size) false:=U
  have M:∀c u,c≠z->d.get? c=some u->N.get? c=some u:=λc u j e=>u8.extBut _ _ j (u7.extBut _ _ j (Zb _ e));have L:IsPair N d.objs.size x y:=u8.extBut _ _ (Xi Rw) (u7.extBut _ _ (Xi Rw) (Zh _ rfl));rw[uM]at U L;refine Zc ⟨_,rfl,?_⟩;show Q (.ref d.objs.size) _;rw[uM];exact k N ⟨⟨_,_,.inr ⟨_,rfl⟩,U⟩,M _ _ D.Iz (FV _ _ D.Iz D.IO D.Ia D.Ib X),⟨x,y,M _ _ D.Oz R⟩,V.at λu e=>M _ u D.az e,ib5.at λu e=>M _ u D.bz e⟩ L λc u j C r K e=>M c u j (FV c u j C r K e)
 ·simp only[Zv,Z0,List.forIn_toArray,Y3,WE];have jJ:=yu hp λu e=>h p u (m z (.inl rfl)).1.symm e;have zm:S.IsTupleIter a p n:=ia.at λu e=>h a u D.az e;refine Za (Za (Za (ZK ?_)));show ag _ _ (Builtin.SmallTypes.nextOf (.ref a) >>= _) _ _ _;refine Za (gh.dy zm jJ hx λg2 Y i=>Zc (Zc ?_));have yK:=yu hq λu e=>i.extBut q u (m a (.inr (.inr (.inl rfl)))).2.symm (h q u (m z (.inl rfl)).2.symm e);have ib2:g2.IsTupleIter b q n:=ib.at λu e=>i.extBut b u D.ab.symm (h b u D.bz e);refine Za (Za (ZK ?_));show ag _ _ (Builtin.SmallTypes.nextOf (.ref b) >>= _) _ _ _;refine Za (gh.dy ib2 yK hy λB Og l=>Zc (Zc (Zc ?_)));have K7:∀c u,c≠z->c≠a->c≠b->s.heap.get? c=some u->B.get? c=some u:=λc u j C r e=>l.extBut c u r (i.extBut c u C (h c u j e));have To:B.objs.size=s.heap.objs.size:=by rw[l.1,i.1,jo]
  have z3:qD B z I O f gg:=l.extBut _ _ D.bz.symm (i.extBut _ _ D.az.symm H);show ag _ _ (newTuple [x,y] >>= _) _ _ _;refine Za (wpAny_newTuple (Zc ⟨_,rfl,?_⟩));show Q (.ref B.objs.size) _;rw[To];refine k _ ⟨⟨f,gg,hf,Zb _ z3⟩,Zb _ (K7 _ _ D.Iz D.Ia D.Ib X),⟨x0,T,Zb _ (K7 _ _ D.Oz D.Oa D.Ob ow)⟩,(Y.at λu e=>Zb _ (l.extBut a u D.ab e)),(Og.at λu e=>Zb _ e)⟩ ?_ λc u j _ r K e=>Zb _ (K7 c u j r K e);rw[<- To];exact Zh _ rfl
theorem ended{Q:Fin->af->Prop}(P:A.handled=none)(D:Ap z I O a b)(Z:At s.heap z I O a b p q n)(K:∀c,c=z\/c=O\/c=a\/c=b->c≠p/\c≠q)(J:s.heap.IsTuple p xs)(N:xs[n]?=none)
  (k:∀y e,(∀c u,c≠z->c≠O->c≠a->c≠b->s.heap.get? c=some u->y.get? c=some u)->(∃u,y.get? e=some u/\u.cls=.type "StopIteration")->E (.ref e) {s with heap:=y}):
  ag (aj prog w) A (Builtin.«zip.__next__» ⟨[.ref z],[]⟩) Q E s:=by
 obtain⟨⟨f,g,W,h⟩,V,⟨x0,y0,Y⟩,M,ib⟩:=Z;show ag _ _ (field (.ref z) 2 >>= _) _ _ _;refine Za (ZP h rfl (x:=.bool false) rfl ?_);show ag _ _ (field (.ref z) 3 >>= _) _ _ _;refine Za (ZP h rfl (x:=.ref I) rfl (Za (Xb V rfl ?_)));show ag _ _ (Builtin.SmallTypes.ownedTupleIsFree (.ref z) >>= _) _ _ _;refine Za (RK W h ?_ λm gg i d jo=>?_)
 ·simp only[Yt];refine Za (XX (Za (ZP h rfl (x:=.ref O) rfl (Za (Yb h 'b' λm i d=>?_)))))
  replace i:qD m z I O .ellipsis g:=i
  refine Za ?_;simp only[Vn,List.zipIdx_nil,Y3,WE];refine Za (Za (wpAny_onRaise ?_));have H:=yu J λu e=>d.extBut p u (K z (.inl rfl)).1.symm e;have G:m.IsTupleIter a p n:=M.at λu e=>d.extBut a u D.az e;show ag _ _ (Builtin.SmallTypes.nextOf (.ref a) >>= _) _ _ _;refine Za (gh.h_ P G H N λF e j C=>?_);obtain⟨T,r,R⟩:=C;have L:qD F z I O .ellipsis g:=j _ _ D.az.symm i;have U:e≠z:=λv=>by subst v;rw[L]at r;cases r;simp at R
  exact Yb L 'b' λX _ S=>k X e (λc u l _ B _ v=>S.extBut _ _ l (j _ _ B (d.extBut _ _ l v))) ⟨T,S.extBut _ _ U r,R⟩
 ·simp only[Zv,Z0,List.forIn_toArray,Y3,WE];have H:=yu J λu e=>d p u (K z (.inl rfl)).1.symm e;have G:m.IsTupleIter a p n:=M.at λu e=>d a u D.az e;refine Za (Za (Za (ZK ?_)));show ag _ _ (Builtin.SmallTypes.nextOf (.ref a) >>= _) _ _ _;refine Za (gh.h_ P G H N λF e j C=>?_);exact k F e (λc u l _ B _ v=>j _ _ B (d c u l v)) C
theorem nxt{x y:aa}{Q:Option aa->af->Prop}(D:Ap z I O a b)(Z:At s.heap z I O a b p q n)(j:∀c,c=z\/c=O\/c=a\/c=b->c≠p/\c≠q)(i:s.heap.IsTuple p xs)(e:s.heap.IsTuple q ys)(f:xs[n]?=some x)(m:ys[n]?=some y)
  (k:∀d,At d z I O a b p q (n+1)->IsPair d s.heap.objs.size x y->(∀c u,c≠z->c≠O->c≠a->c≠b->s.heap.get? c=some u->d.get? c=some u)->Q (some (.ref s.heap.objs.size)) {s with heap:=d}):
  ag (aj prog w) A (pyNext (.ref z)) Q E s:=by
 have ty:s.TypeIs (.ref z) "zip":=let ⟨_,_,_,zp⟩:=Z.zp;⟨_,zp,rfl⟩;unfold pyNext;exact Za (XJ (ZS (name:=Str.ofString "__next__") ty Wl (Z7 Wl ty F.entry_zip_next (item D Z j i e f m λd l g h=>Zc (k d l g h)) (F.args_zip_next_1 _))))
theorem stop{Q:Option aa->af->Prop}(g:A.handled=none)(D:Ap z I O a b)(Z:At s.heap z I O a b p q n)(m:∀c,c=z\/c=O\/c=a\/c=b->c≠p/\c≠q)(i:s.heap.IsTuple p xs)(h:xs[n]?=none)
  (k:∀d,(∀c u,c≠z->c≠O->c≠a->c≠b->s.heap.get? c=some u->d.get? c=some u)->Q none {s with heap:=d}):ag (aj prog w) A (pyNext (.ref z)) Q E s:=by
 have ty:s.TypeIs (.ref z) "zip":=let ⟨_,_,_,zp⟩:=Z.zp;⟨_,zp,rfl⟩;unfold pyNext;refine Za (XJ (ZS (name:=Str.ofString "__next__") ty Wl (Z7 Wl ty F.entry_zip_next (ended g D Z m i h λd e j f=>?_) (F.args_zip_next_1 _))));obtain⟨u,l,r⟩:=f;exact Za (wpAny_isInstance (T:= "StopIteration") (b:=true) ⟨u,l,r⟩ isSubtype_stop (Zc (k _ j)))
theorem iter{Q:aa->af->Prop}(Z:At s.heap z I O a b p q n)(h:Q (.ref z) s):ag (aj prog w) A (pyIter (.ref z)) Q E s:=by
 have c:s.TypeIs (.ref z) "zip":=let ⟨_,_,_,zp⟩:=Z.zp;⟨_,zp,rfl⟩;refine wpAny_pyIter_slot c F.slot_zip_iter (Z7 F.slot_zip_iter c F.entry_zip_iter ?_ (F.args_zip_iter_1 _));show ag _ _ (ret (.ref z)) _ _ s;exact Zc ⟨_,rfl,"zip",_,c,Wl.lookup,h⟩
end
abbrev k1(h:ao)(p:ae):ao:=h.push {cls:=.type "tuple_iterator",data:=.fields #[.ref p,.int 0 0]}
abbrev k2(h:ao)(p q:ae):ao:=k1 (k1 h p) q
abbrev k3(h:ao)(p q:ae):ao:=(k2 h p q).push {cls:=.type "tuple",data:=.seq #[.ref h.objs.size,.ref (k1 h p).objs.size]}
abbrev k4(h:ao)(p q:ae):ao:=(k3 h p q).push {cls:=.type "tuple",data:=.seq #[.none,.none]}
abbrev k5(h:ao)(p q:ae):ao:=(k4 h p q).push {cls:=.type "zip",data:=.fields #[.none,.bool false,.bool false,.ref (k2 h p q).objs.size,.ref (k3 h p q).objs.size]}
theorem made(p q:ae)(xs ys:Array aa):Meets (Builtin.«zip.__new__» ⟨[.type "zip",.ref p,.ref q],[]⟩) (λ_ R s=>s.heap.IsTuple p xs/\s.heap.IsTuple q ys/\R (.ok (.ret (.ref (k4 s.heap p q).objs.size))) {s with heap:=k5 s.heap p q}):=
 .of_wp λa w A R s h=>by
  obtain⟨b,g,d,c,f⟩:=s;obtain⟨k,l,h⟩:=h;have m:=sub_zip;have j:Heap.IsTuple (Shared.heap ⟨b,g,d,c,f⟩) p xs:=k;have i:Heap.IsTuple (Shared.heap ⟨b.push {cls:=.type "tuple_iterator",data:=.fields #[.ref p,.int 0 0]},g,d,c,f⟩) q ys:=yu l λu e=>Zb _ e
  wp_walk using YM j,YM i
  exact⟨_,rfl,h⟩
section
variable{p q:ae}{xs ys:Array aa}
theorem iY{Q:aa->af->Prop}(r:s.heap.IsTuple p xs)(m:s.heap.IsTuple q ys)
  (k:∀e,At e (s.heap.objs.size+4) (s.heap.objs.size+2) (s.heap.objs.size+3) s.heap.objs.size (s.heap.objs.size+1) p q 0->(∀c u,s.heap.get? c=some u->e.get? c=some u)->Q (.ref (s.heap.objs.size+4)) {s with heap:=e}):
  ag (aj prog w) A (call (.type "zip") [.ref p,.ref q]) Q E s:=by
 refine callType_new F.called_zip 'c' (F.typeCall_zip_2 _ _) (F.newCall_zip_2 _ _) (λg=>F.args_object_init_3 g _ _) F.entry_zip_new (made p q xs ys) ⟨r,m,?_⟩;have a:(k1 s.heap p).objs.size=s.heap.objs.size+1:=Yq ..;have b:(k2 s.heap p q).objs.size=s.heap.objs.size+2:=by rw[Yq,a]
 have d:(k3 s.heap p q).objs.size=s.heap.objs.size+3:=by rw[Yq,b]
 have h:(k4 s.heap p q).objs.size=s.heap.objs.size+4:=by rw[Yq,d]
 have f:(k5 s.heap p q).get? (k4 s.heap p q).objs.size=some _:=Zh _ rfl;have j:(k5 s.heap p q).get? (k3 s.heap p q).objs.size=some _:=Zb _ (Zh _ rfl);have l:(k5 s.heap p q).get? (k2 s.heap p q).objs.size=some _:=Zb _ (Zb _ (Zh _ rfl));have i:(k5 s.heap p q).get? (k1 s.heap p).objs.size=some _:=Zb _ (Zb _ (Zb _ (Zh _ rfl)));have v:(k5 s.heap p q).get? s.heap.objs.size=some _:=Zb _ (Zb _ (Zb _ (Zb _ (Zh _ rfl))));show _/\_;rw[b,d,h]at f;rw[a,b]at l;rw[d]at j;rw[a]at i;rw[h];exact⟨⟨_,f,rfl⟩,k _ ⟨⟨_,_,.inl rfl,f⟩,l,⟨_,_,j⟩,⟨_,v,rfl,rfl⟩,⟨_,i,rfl,rfl⟩⟩ λc u x=>Zb _ (Zb _ (Zb _ (Zb _ (Zb _ x))))⟩
end
end iZ
namespace L2
open PySem PySem.Spec PyProof.Rows
def xt(K:PySem.W.Frag)(a b:ae):It:=
 ⟨λi H=>∃c d x y,aQ K H a c/\aQ K H b d/\c[i]?=some x/\d[i]?=some y,λi H v e=>∃p x y,H p=none/\(∀c,aQ K H a c->c[i]?=some x)/\(∀d,aQ K H b d->d[i]?=some y)/\e=upd H p (.tup [x,y])/\v=.ref p,λi H=>∃c,aQ K H a c/\c.length<=i⟩
theorem xf5{X:Cx}{a:List (ae×aw)}{σ:St}{H:Hp}{s:af}{x y:V}{u v:aa}(I:Inv X a σ H s)(d:RelV x u)(c:RelV y v):
  Inv X a σ (upd H s.heap.objs.size (.tup [x,y])) {s with heap:=s.heap.push {cls:=.type "tuple",data:=.seq #[u,v]}}:=
 I.laid (t':=s.toks) (λb o q=>Zb _ q) (Zg _) ⟨by show 2<=sizeLine;decide,[u,v],.cons d (.cons c .nil),_,Zh _ rfl,rfl,⟨_,rfl⟩,rfl⟩
theorem Sr{X:Cx}{f:List (ae×aw)}{σ:St}{H:Hp}{s:af}{h':ao}{t':Nat}{fp:List ae}(I:Inv X f σ H s)(k:∀c u,c∉fp->s.heap.get? c=some u->h'.get? c=some u)(d:∀b∈fp,gz X f H b):Inv X f σ H {s with heap:=h',toks:=t'}:=by
 have g:∀b u,H b=some u->b∉fp:=λb u e z=>by rw[(d b z).1]at e;cases e
 have j:X.env.locals∉fp:=λz=>(d _ z).2.1 rfl;refine I.step (g':=s.gens) (d':=s.drawn) (ch:=fp) (λb hb=>⟨(d b hb).2.2.2.1,(d b hb).2.1,(d b hb).2.2.2.2.1,(d b hb).2.2.2.2.2⟩) (λb o _ _ a e _=>k b o a e) (λb o _ _ a e _=>⟨o.slots,k b o a e⟩) (λ_ _ _ _ n=>n)
  (λb o a e=>⟨o,k b o a e⟩) (λ_ _ e=>e) (λ_ _ _ e=>e) (λb w e=>⟨#[],by rw[e];simp⟩) (λm h=>?_) (λb u e=>?_) I.bare
 ·obtain⟨o,l,p,i,r⟩:=h;exact⟨o,l,p,k _ o j i,r⟩
 ·refine(I.aW b u e).fM (λc v a q=>k c v ?_ q) (λ_ q=>q) λ_ _ q=>q;rcases a with z|z
  ·rw[z];exact g b u e
  ·exact g c _ z
inductive FY:ar->Prop
 |n (x:aq) (p:aA):FY (.Name x p)
 |t (l:List ar) (x:Nat) (p:aA):FY (.Tuple l x p)
theorem xP5{prog:ah}{w:ak}{A:au}{E:aa->af->Prop}{s:af}{z I O a b p q t:ae}{n:Nat}{j:ar}{Q:Unit->af->Prop}(B:FY j)(D:iZ.Ap z I O a b)(Z:iZ.At s.heap z I O a b p q n)
  (k:∀d,iZ.At d z I O a b p q n->(∀c u,c≠z->s.heap.get? c=some u->d.get? c=some u)->Q () {s with heap:=d}):ag (aj prog w) A (letOwnedTupleGo j (.ref z) (.ref t)) Q E s:=by
 cases B with
 |n=>exact Zc (k _ Z λ_ _ _ e=>e)
 |t=>
  obtain⟨⟨f,g,F,i⟩,v,⟨C,G,l⟩,x,r⟩:=id Z;unfold letOwnedTupleGo;refine Za (wpAny_load i ?_);refine YK (λ_=>Za (XX (Yb i 'b' λd m h=>k d ⟨⟨.none,g,.inl rfl,m⟩,h.extBut _ _ D.Iz v,⟨_,_,h.extBut _ _ D.Oz l⟩,x.at λu e=>h.extBut a u D.az e,r.at λu e=>h.extBut b u D.bz e⟩ λc u y e=>h.extBut c u y e))) λ_=>Zc (k _ Z λ_ _ _ e=>e)
theorem xf7{P:ah}{w:ak}{K:PySem.W.Frag}{W:ar}(ht:FY W)(p q z I O a b:ae)(D:iZ.Ap z I O a b)(Z:∀c,c=z\/c=O\/c=a\/c=b->c≠p/\c≠q):
  Turn P w K W (xt K p q) [z,I,O,a,b] z (λi h=>iZ.At h z I O a b p q i) where
 mem:=by simp
 obj:=λi h l c d=>by
  obtain⟨⟨_,_,_,r⟩,B,⟨N,V,m⟩,⟨oa,F,_,da⟩,⟨ob,A,_,db⟩⟩:=l;have:c=z\/c=I\/c=O\/c=a\/c=b:=by simpa using d
  rcases this with rfl|rfl|rfl|rfl|rfl
  ·exact⟨_,r,λv e=>nomatch e⟩
  ·exact⟨_,B,λv e=>nomatch e⟩
  ·exact⟨_,m,λv e=>nomatch e⟩
  ·exact⟨oa,F,λv e=>by rw[da]at e;cases e⟩
  ·exact⟨ob,A,λv e=>by rw[db]at e;cases e⟩
 keep:=λi h h' l k=>by
  obtain⟨⟨f,g,C,r⟩,B,⟨N,V,m⟩,F,A⟩:=l;exact⟨⟨f,g,C,k z 'b' _ r⟩,k I 'b' _ B,⟨N,V,k O 'b' _ m⟩,F.at λo e=>k a 'b' o e,A.at λo e=>k b 'b' o e⟩
 item:=by
  intro X R T G d i j4 s σ H E j C l L;subst R T G;obtain⟨xs,ys,x,y,vP,Y,Q,hy⟩:=L;obtain⟨Oe,Tu,IY,hz1⟩:=j.tuple vP;obtain⟨Od,Tt,vq,hz2⟩:=j.tuple Y;obtain⟨u,hu,ru⟩:=Tu.get Q;obtain⟨v,hv,J⟩:=Tt.get hy;refine iZ.nxt D l Z (show s.heap.IsTuple p Oe.toArray from IY) (show s.heap.IsTuple q Od.toArray from vq) (x:=u) (y:=v) (by simpa using hu) (by simpa using hv) λh' l7 S U=>?_;refine⟨_,rfl,xP5 ht D l7 λh2 sV M=>?_⟩;have lt:∀c∈[z,I,O,a,b],c<s.heap.objs.size:=λc d=>by
   obtain⟨⟨_,_,_,r⟩,B,⟨N,V,m⟩,⟨oa,F,_,_⟩,⟨ob,A,_,_⟩⟩:=l;have:c=z\/c=I\/c=O\/c=a\/c=b:=by simpa using d
   rcases this with rfl|rfl|rfl|rfl|rfl
   ·exact Zl r
   ·exact Zl B
   ·exact Zl m
   ·exact Zl F
   ·exact Zl A
  have fresh:H s.heap.objs.size=none:=j.aW.fresh (Zg _);have J0:=xf5 (x:=x) (y:=y) j ru J;have wJ:∀c∈[z,I,O,a,b],gz X j4 (upd H s.heap.objs.size (.tup [x,y])) c:=λc d=>by
   obtain⟨g1,g2⟩:=C c d;exact⟨by rw[bo (Zz (lt c d))];exact g1,g2⟩
  have J1:=Sr (h':=h2) (t':=s.toks) J0 (λc o d e=>by
   have nz:c≠z:=λw=>d (by simp[w]);have e:(s.heap.push {cls:=.type "tuple",data:=.seq #[u,v]}).get? c=some o:=e;refine M c o nz ?_;by_cases j8:c<s.heap.objs.size
   ·exact U c o nz (λw=>d (by simp[w])) (λw=>d (by simp[w])) (λw=>d (by simp[w])) (Mm e j8)
   ·have vE:c<s.heap.objs.size+1:=by have:=Zl e;rw[Yq]at this;exact this
    have eb:c=s.heap.objs.size:=Vu (Xk vE) (WJ j8);subst eb;rw[Zh _ rfl]at e;cases e;exact S) wJ
  refine⟨.ref s.heap.objs.size,_,J1,rfl,⟨_,x,y,fresh,λKj h=>by rw[j.fH h vP];exact Q,λys' h=>by rw[j.fH h Y];exact hy,rfl,rfl⟩,?_,λc d=>(wJ c d).1⟩;exact sV
 done:=by
  intro X R T G d i j4 s σ H E j C l L;subst R T G;obtain⟨xs,hq,Q⟩:=L;obtain⟨aI,J,pt,hz⟩:=j.tuple hq;have hl:=J.length;refine iZ.stop (j.ok.hd d) D l Z (show s.heap.IsTuple p aI.toArray from pt) (by simp;lia) λh' U=>⟨rfl,Sr (t':=s.toks) j (λc u d e=>?_) C⟩;exact U c u (λw=>d (by simp[w])) (λw=>d (by simp[w])) (λw=>d (by simp[w])) (λw=>d (by simp[w])) e
 self:=λ_ _ _ _ _ l h=>iZ.iter l h
section
variable{X:Cx}
def K3(K:PySem.W.Frag)(d:TA):TI:=λe H R=>d e H λf c=>∃a b,f=[.ref a,.ref b]/\(∃h,aQ K c a h)/\(∃g,aQ K c b g)/\R (xt K a b) c
theorem Sq{B:ar}(P:FY B){m j:ar}{y:TA}{p g:aA}(Q:Gl X "zip")(G:X.mg "zip"=none)(S:PA X [m,j] y)(hs:starEach [m,j] X.env=(false,eval m X.env)::starEach [j] X.env:=by rfl)(T:(backTo g (starEach [j] X.env)).any (·.1)=false:=by rfl):PI X B (.Call (.Name "zip" p) [m,j] [] g) (K3 X.K y):=by
 intro q s x H R I h;refine Call_ (A4 I Q G PyProof.Rows.boot_zip (Y6 (bC (S g q s x H _ I h) λus f ⟨vs,r,l,r1,q1⟩=>?_) hs T));obtain⟨a,b,rfl,⟨xs,Z⟩,⟨ys,hy⟩,k⟩:=q1;obtain⟨u,v,rfl,Y,O⟩:∃u v,us=[u,v]/\RelV (.ref a) u/\RelV (.ref b) v:=by
  cases r1 with
  |cons V L=>cases L with
   |cons a3 a4=>cases a4;exact⟨_,_,rfl,V,a3⟩
 cases Y;cases O;obtain⟨M,Tu,E,hz1⟩:=l.tuple Z;obtain⟨W,Tt,D,K⟩:=l.tuple hy;have A:a<f.heap.objs.size:=by obtain⟨o,e,_⟩:=E;exact Zl e
 have C:b<f.heap.objs.size:=by obtain⟨o,e,_⟩:=D;exact Zl e
 refine iZ.iY (show f.heap.IsTuple a M.toArray from E) (show f.heap.IsTuple b W.toArray from D) λU d kp=>?_
 refine iZ.iter d ?_
 have J:Inv X q x r {f with heap:=U}:=l.kept (t':=f.toks) kp;generalize w:f.heap.objs.size=N at d A C
 have ge:∀c,N<=c->gz X q r c:=λc i=>l.lP (by rw[w];exact i) (l.aW.fresh (by rw[w];exact i));refine⟨N+4,[N+4,N+2,N+3,N,N+1],_,_,r,rfl,J,xf7 P a b (N+4) (N+2) (N+3) N (N+1) ?_ ?_,d,λc i=>?_,k⟩
 ·constructor<;>simp
 ·intro c i;have F:N<=c:=by rcases i with rfl|rfl|rfl|rfl<;>simp
  exact⟨Xi (ZJ A F),Xi (ZJ C F)⟩
 ·have:c=N+4\/c=N+2\/c=N+3\/c=N\/c=N+1:=by simpa using i
  exact ge c (by rcases this with rfl|rfl|rfl|rfl|rfl<;>simp)
theorem xC3{nx:aq}{g:aA}{c a:ar}{d:TA}{p b:aA}(i:Gl X "zip")(e:X.mg "zip"=none)(f:PA X [c,a] d)(hs:starEach [c,a] X.env=(false,eval c X.env)::starEach [a] X.env:=by rfl)(h:(backTo b (starEach [a] X.env)).any (·.1)=false:=by rfl):PI X (.Name nx g) (.Call (.Name "zip" p) [c,a] [] b) (K3 X.K d):=Sq (.n _ _) i e f hs h
theorem xC4{l:List ar}{x:Nat}{g:aA}{c a:ar}{d:TA}{p b:aA}(i:Gl X "zip")(e:X.mg "zip"=none)(f:PA X [c,a] d)(hs:starEach [c,a] X.env=(false,eval c X.env)::starEach [a] X.env:=by rfl)(h:(backTo b (starEach [a] X.env)).any (·.1)=false:=by rfl):PI X (.Tuple l x g) (.Call (.Name "zip" p) [c,a] [] b) (K3 X.K d):=Sq (.t _ _ _) i e f hs h
theorem xq0{K:PySem.W.Frag}{a b:ae}{xs ys:List V}{g:TG}{tb:TS}{D:Ends}{σ:St}{H:Hp}(G:xs.length=ys.length)(c:Nat->St->Hp->Prop)(h0:c 0 σ H)(A:∀i σ H,c i σ H->aQ K H a xs/\aQ K H b ys)
  (hs:∀(i:Nat) x y t σ H,xs[i]?=some x->ys[i]?=some y->H t=none->c i σ H->g (.ref t) σ (upd H t (.tup [x,y])) λj k=>tb {D with nx:=c (i+1),ct:=c (i+1),bk:=D.nx} j k) (s:∀σ H,c xs.length σ H->D.nx σ H):
  ∃W:Nat->Nat->St->Hp->Prop,(∃m,W 0 m σ H)/\∀i m σ H,W i m σ H ->
   ((xt K a b).stop i H/\D.nx σ H)\/((xt K a b).go i H/\∃N:St->Hp->Prop,(∀f d,N f d->∃q,q<m/\W (i+1) q f d)/\∀x d,(xt K a b).mV i H x d->g x σ d λj k=>tb {D with nx:=N,ct:=N,bk:=D.nx} j k):=by
 refine⟨λi m σ H=>m=xs.length-i/\i<=xs.length/\c i σ H,⟨xs.length,by simp,ZU _,h0⟩,?_⟩;rintro i m σ H ⟨rfl,F,p⟩;obtain⟨h,l⟩:=A i σ H p;by_cases r:i<xs.length
 ·refine .inr ⟨⟨xs,ys,xs[i],ys[i]'(by lia),h,l,by simp[r],by simp[show i<ys.length by lia]⟩,c (i+1),λf d B=>⟨xs.length-(i+1),by lia,rfl,r,B⟩,λx d y=>?_⟩;obtain⟨t,u,v,E,w,C,rfl,rfl⟩:=y;exact hs i u v t σ _ (w xs h) (C ys l) E p
 ·have e:i=xs.length:=by lia
  subst e;exact .inl ⟨⟨xs,h,Zg _⟩,s σ H p⟩
end
end L2
namespace L2
open PySem
theorem xf9{K:PySem.W.Frag}{H:Hp}{a b:ae}{us ws:List V}{te:TE}{σ:St}{Fin:Hp->Prop}{D:ae}(f:Nat->List V->Hp->Prop)(S:us.length=ws.length)(hsz:us.length<sizeLine)(i0:f 0 [] (upd H D (.lst [])))
  (F:∀i c d,f i c d->d D=some (.lst c)/\c.length<=i/\d a=some (.tup us)/\d b=some (.tup ws)) (k:∀i c d g,f i c d->aC d g->f i c g)
  (step:∀i c x y d,us[i]?=some x->ws[i]?=some y->f i c d->∀B:VK,(∀v g,g D=some (.lst c)->f (i+1) (c++[v]) (upd g D (.lst (c++[v])))->B v g)->te (some x::some y::σ) d B)
  (r:∀c d,f us.length c d->Fin d):
  ∃W:Nat->Nat->List V->Hp->Prop,(∃m,W 0 m [] (upd H D (.lst []))) /\
   ∀i m c d,W i m c d->d D=some (.lst c)/\c.length<sizeLine/\(((xt K a b).stop i d/\Fin d)\/((xt K a b).go i d/\∀y g,(xt K a b).mV i d y g->∀s:St,s.length=2 ->
    pI K 2 (qB (eZ 0) (qB (eZ 1) pJ)) y (s++σ) g λA L=>yp A L λb w=>if b=true then te A w λv j=>j D=some (.lst c)/\∃e,e<m/\W (i+1) e (c++[v]) (upd j D (.lst (c++[v])))else ∃e,e<m/\W (i+1) e c w)):=by
 refine⟨λi m c d=>i<=us.length/\m=us.length-i/\f i c d,⟨us.length,ZU _,rfl,i0⟩,?_⟩;rintro i m c d ⟨T,rfl,l⟩;obtain⟨h1,h2,q,u⟩:=F i c d l;refine⟨h1,by lia,?_⟩;by_cases I:i=us.length
 ·subst I;exact .inl ⟨⟨us,aQ.of q,Zg _⟩,r c d l⟩
 ·have O:i<us.length:=by lia
  refine .inr ⟨⟨us,ws,us[i],ws[i]'(by lia),aQ.of q,aQ.of u,Zd O,Zd 'a'⟩,λy g P s E=>?_⟩;obtain⟨p,x,h,G,M,C,rfl,rfl⟩:=P;obtain⟨R,Q,rfl⟩:=L2.I_ E
  ·
   refine⟨p,[x,h],rfl,aQ.of aX,rfl,x,[h],rfl,h,[],rfl,rfl,?_⟩;refine(cB ?_:(if(true:Bool)=true then te (some x::some h::σ) (upd d p (.tup [x,h])) (λv j=>j D=some (.lst c)/\∃e,e<us.length-i/\(i+1<=us.length/\e=us.length-(i+1)/\f (i+1) (c++[v]) (upd j D (.lst (c++[v])))))else ∃e,e<us.length-i/\(i+1<=us.length/\e=us.length-(i+1)/\f (i+1) c (upd d p (.tup [x,h])))));exact step i c x h _ (M us (aQ.of q)) (C ws (aQ.of u)) (k i c _ _ l (bF G)) _ λv j J N=>⟨J,us.length-(i+1),by lia,by lia,rfl,N⟩
end L2
namespace Pr
open PySem L2 Qf
theorem xK1{a:List Nat}{p:Nat}(h:p∉a):putK (dY++fK a) (eQ p) (.int (2+a.length:Nat))=dY++fK (a++[p]):=by
 unfold putK fK;rw[pV,LO,MA,tN CJ,Zi h,Zi 'c',MX,Z6]
theorem xK2{E:List Nat}{i q:Nat}(h:p6 (E.take i) q):nm (E.take i) q=nm E q:=by
 by_cases z:q<2
 ·rw[oq z,oq z]
 ·rw[pq z,pq z];have a:=h.resolve_left z
  conv=>rhs;rw[<- Xe i E]
  rw[Vh,Zr a]
section
variable{mg:aq->Option aa}{base:ao}
theorem iF:aE ["row","numbers"] ["row","numbers"] (cg uV):=cZ
def So:Sp:=λd H Q _=>∃(b g:ae)(r:Row)(a:List (Key×V))(f:Nat->Nat),d=[.ref b,.ref g]/\H b=some (.tup (vN r))/\r.length=4/\H g=some (.dK a)/\(∀q∈r,br a (Sum.inl (q:Int))=some (.int (f q:Nat))) /\
 ∀(c:Hp)(t:ae),aC H c->c t=some (.tup (vN (r.map f)))->Q (.ref t) c
theorem xq1{f:ae}{v:ai}(F:aP K "renumbered" "renumbered" uV f v)(B:d_ mg):aB P w K mg base aJ 1 f v ["row","numbers"] So:=by
 refine F.ok iF (λS H Q E h=>?_) (λbp A j s H S Q E L h=>?_)
 ·obtain⟨b,g,r,c,f,rfl,_⟩:=h
  rfl
 ·obtain⟨b,g,r,c,d,rfl,hb,G,I,W,q⟩:=h;have O:A.units+3+1<cLine:=by
   have h2:A.units+3+16*0+200<cLine:=L.un;lia
  refine fV ⟨_,⟨cj (hZ (l6 K rfl) 'd' B.tuple ZE (aD (oB ["row","numbers"] (cg uV) rfl rfl rfl iF.nd (sr (pv 0)) (λcl C Y aG Z=>AF O (pv 2) (pv 0) (λ_ _=>rfl))) aH))⟩,?_⟩;refine⟨_,rfl,b,rfl,⟨_,aQ.of hb⟩,λD M=>oG M (λi z _=>∃m:Nat,r[i]?=some m/\z=.int (d m:Nat)) (pA (K:=K) hb) (by rw[dM,G];decide) (λ_ _ _ _ _ _ h=>h) ?_ ?_⟩
  ·intro i x u hi e p Q' U;obtain⟨m,a,rfl⟩:=mZ e;have V:cS u g (.int (m:Int)) (some (.int (d m:Nat))):=by
    have:=cS.k (k:=Sum.inl (m:Int)) (p _ _ I);rw[W m (Zo a)]at this;exact this
   exact⟨_,rfl,_,rfl,g,_,rfl,V,U _ _ (aC.refl _) ⟨m,a,rfl⟩⟩
  ·intro y u p T N J;have R:y=vN (r.map d):=by
    refine pz (by rw[N,dM,dM,Ze]) λi x e=>?_;obtain⟨m,a,rfl⟩:=J i x e;exact tQ (by rw[Zf,a];rfl)
   subst R;exact⟨D,_,rfl,.inl ⟨bY.of T,λl X=>q _ l (p.trans (bF X)) aX⟩⟩
abbrev nSO:List aq:=["n","top","rows","numbers","told","place"]
theorem tj:aE nSO ["n","top","rows"] (cg HE):=cZ
def Cd:Sp:=λd H Q _=>∃(c:ae)(n a:Nat)(rows:List Row),d=[.int (n:Nat),.int (a:Nat),.ref c]/\ft H c rows/\cz rows/\rows.length<=1190900/\a<rows.length+2/\n<=12/\dp rows a<=n /\
 ∀(b:Hp)(t:ae),aC H b->cD b t n (nm (cu rows n [] a) a) (told rows (cu rows n [] a))->Q (.ref t) b
theorem xP6{f fP fE fR:ae}{fd iB fdE dJ:ai}(F:aP K "shape_of" "shape_of" HE f fd)(B:d_ mg)(T:lh mg)(jT:∃t,mg "EMPTY"=some (.int 0 t))
  (hP:mg "places_as_ended"=some (.ref fP)) (FP:aP K "places_as_ended" "places_as_ended" AD fP iB) (bP:Binds K iB ["rows","top"] [])
  (hE:mg "end_rows"=some (.ref fE)) (FE:aP K "end_rows" "end_rows" qv fE fdE) (bE:Binds K fdE ["rows","number","ended"] [])
  (hR:mg "renumbered"=some (.ref fR)) (FR:aP K "renumbered" "renumbered" uV fR dJ) (bR:Binds K dJ ["row","numbers"] []):aB P w K mg base aJ 15 f fd ["n","top","rows"] Cd:=by
 have GP:∀d,aB P w K mg base aJ (d+2) fP iB ["rows","top"] (CL d):=λd=>UN FP B T hE FE bE d;have GR:aB P w K mg base aJ 1 fR dJ ["row","numbers"] So:=xq1 FR B;obtain⟨te,wK⟩:=jT;obtain⟨tu,wS⟩:=T.full;obtain⟨tf,kA⟩:=T.first;refine F.ok tj (λvs H Q E h=>?_) (λbp A outer s H vs Q E hr h=>?_)
 ·obtain⟨U,n,J,rows,rfl,_⟩:=h
  rfl
 ·obtain⟨U,n,J,rows,rfl,wE,ok,hl,kF,hn,hd,q⟩:=h;have hu:A.units+3+1<cLine:=by
   have h2:A.units+3+16*14+200<cLine:=hr.un;lia
  have hrP:aS (n+2) _:=hr.mono 'a';have jC:aS 1 _:=hr.mono 'c';refine aO ⟨_,x_ (i:=3) tj.nd rfl (by first|left;rfl|right;rfl) (T4 (.cons ⟨cX (v:=.int 0) 'd' wK ⟨_,rfl⟩⟩ ⟨cX (v:=.int 0) 'd' wK ⟨_,rfl⟩⟩ (.cons ⟨cX (v:=.int 1) 'd' wS ⟨_,rfl⟩⟩ ⟨cX (v:=.int 1) 'd' wS ⟨_,rfl⟩⟩ .nil)) rfl rfl (λz=>nomatch z) 'c') rfl rfl,?_⟩;refine aO ⟨_,⟨eI 4 tj.nd (iI aH)⟩,?_⟩;refine aO ⟨_,⟨o_ Yj rfl (Mp (bZ (GP n) hrP hP FP.kp bP (aD (pv 2) (aD (pv 1) aH)))) (dj 5 tj.nd)
   (oW.go (.cons ⟨ip (df.go (Ij Ye Ym Yn tP ⟨pv 4⟩ (.cons ⟨bZ GR jC hR FR.kp bR (aD (cO (ixS K rfl) (pv 2) (pv 5)) (aD (pv 3) aH))⟩ .nil rfl)))⟩
    (.one ⟨AE hu (pv 3) (cy iR (pv 5) (cX (v:=.int 2) 'd' kA ⟨_,rfl⟩)) (cy iR (cy pQ (cQ iq 'd' B.len ZF (aD (pv 4) aH)) aR) (cX (v:=.int 2) 'd' kA ⟨_,rfl⟩)) 'd'⟩)))⟩,?_⟩
  refine fV ⟨_,⟨cj (kq (cw.go (.cons ⟨pv 0⟩ (.cons ⟨AF hu (pv 3) (pv 1) (λ_ _=>rfl)⟩ (.cons ⟨hZ (l6 K rfl) 'd' B.tuple ZE (aD (pv 4) aH)⟩ .nil rfl) rfl) rfl)))⟩,?_⟩;refine λg hg=>⟨aX,dY,rfl,(by show 2<=15;decide),?_⟩;have eg:pO [] dY=dY:=by rfl
  rw[eg];have S1:aC H (upd (upd H g (.dK [])) g (.dK dY)):=λb u z=>by rw[bo (ck z hg)];exact dZ z hg
  have kX:upd (upd H g (.dK [])) g (.dK dY) g=some (.dK dY):=aX;generalize upd (upd H g (.dK [])) g (.dK dY)=H1 at S1 kX ⊢;refine⟨(by show 0<=sizeLine;decide),λD Y=>?_⟩;have hDH:H D=none:=by
   cases z:H D with
   |none=>rfl
   |some o=>rw[S1 _ _ z]at Y;cases Y
  have X:g≠D:=ck kX Y;have S2:aC H (upd H1 D (.lst [])):=S1.trans (bF Y);refine⟨_,rfl,_,rfl,U,J,rows,rfl,wE.same S2,ok,hl,kF,hd,λH3 LE s3 N=>?_⟩;have Jt:=s3 _ _ (dZ (u:=.lst []) kX Y);have vB:=s3 _ _ (aX (H:=H1) (a:=D) (o:=.lst []));have S3:=S2.trans s3;have nLg:LE≠g:=λz=>by rw[z,Jt]at N;cases N
  obtain⟨pe,Ji⟩:=pU ok n [] J (vg rows) kF hd;generalize cu rows n [] J=p at N pe Ji q;have jY:=CM pe;obtain⟨bs,vY,wO,jA⟩:=id wE;refine⟨LE,rfl,⟨_,bY.of N⟩,HI (K:=K) (a:=LE) (xs:=vN p) (λi σ C=>aC H C/\C LE=some (.lst (vN p))/\C g=some (.dK (dY++fK (p.take i)))/\cF C D ((told rows p).take i) /\
    ∃v5,σ=[some (.int (n:Nat)),some (.int (J:Nat)),some (.ref U),some (.ref g),some (.ref D),v5])
   ⟨S3,N,Jt,⟨[],vB,rfl,λi b r e=>by simp at e⟩,none,rfl⟩ (λi σ C _ h=>bY.of h.2.1) ?_ ?_⟩
  ·rintro i y σ C hy ⟨W,Qg,R,⟨I,kJ,vK,PZ⟩,v5,rfl⟩;obtain⟨m,S,rfl⟩:=mZ hy;have hie:=(cx S).1;have nLD:LE≠D:=λz=>by
    rw[z,vB]at N;have:vN p=[]:=by
     injection N with h1
     injection h1 with h2
     exact h2.symm
    have h3:(vN p).length=0:=by rw[this];rfl
    rw[dM]at h3;lia
   have Bd:=pe.lt m (Zo S);have Pu:=ou Bd;have Z:=u6 (rows:=rows) S;have h4:=(ok m _ Pu).1;have jO:∀x∈rows.getD m [],p6 (p.take i) x:=λx hx=>by
    rcases pe.ch i m S x hx with z|⟨j,hj,ej⟩
    ·exact .inl z
    ·exact .inr (Zo (i:=j) (by rw[Va,Zr hj];exact ej))
   have yS:m∉p.take i:=λz=>by
    obtain⟨j,hj,ej⟩:=ZM.mp z;rw[ZT]at hj;have G:p[j]?=some m:=by
     rw[List.getElem_take]at ej;rw[Zd 'a',ej]
    exact dr.mp pe.nd j i 'a' hie (by rw[G,S])
   have Oy:(p.take i).length=i:=by rw[ZT];lia
   generalize rows.getD m []=r at Pu Z h4 jO;have E_:bs[m]?=some (bs[m]'(by lia)):=Zd 'a';have k8:=W _ _ (jA m _ r E_ Pu);have N6:∀Q':VK,Q' (.ref (bs[m]'(by lia))) C->x6 K (.ref U) (.int (m:Int)) C Q':=λQ' hQ=>by
    rcases vY with h|h
    ·exact .inr ⟨U,_,(m:Int),.ref (bs[m]'(by lia)),rfl,rfl,aQ.of (W _ _ h),kr (by rw[Zf,E_];rfl),hQ⟩
    ·exact .inl ⟨U,_,(m:Int),.ref (bs[m]'(by lia)),rfl,rfl,bY.of (W _ _ h),kr (by rw[Zf,E_];rfl),hQ⟩
   refine⟨_,rfl,.inl ⟨rfl,_,bY.of kJ⟩,_,rfl,_,rfl,N6 _ ⟨_,rfl,bs[m]'(by lia),g,r,_,nm p,rfl,k8,h4,R,λx hx=>by rw[KI (jO x hx),xK2 (jO x hx)],λH4 t O L=>?_⟩⟩;have wF:=O _ _ kJ;have ntD:t≠D:=λz=>by rw[z,wF]at L;cases L
   have P0:I.length=i:=by rw[vK,ZT,nH];lia
   refine⟨D,_,.ref t,rfl,rfl,wF,by rw[Ze,P0];exact ml 'a',?_⟩;have j7:((I.map V.ref++[V.ref t]).length:Int)=(i:Int)+1:=by rw[Zk,Ze,P0];rfl
   have hg5:upd H4 D (.lst (I.map V.ref++[.ref t])) g=some (.dK (dY++fK (p.take i))):=by rw[bo X];exact O _ _ R
   have dq:=gZ.k (k:=Sum.inl ((m:Int)+2)) (v:=.int (((I.map V.ref++[V.ref t]).length:Int)-1+2)) hg5 (by
    have:(dY++fK (p.take i)).length=2+i:=by rw[Zk];unfold fK;rw[yg,Oy];rfl
    rw[this];exact ml 'a')
   refine⟨_,rfl,D,_,rfl,.inl (bY.of aX),_,_,rfl,rfl,_,_,rfl,rfl,_,rfl,_,rfl,_,_,rfl,rfl,g,_,rfl,dq,?_⟩
   ·have zU:putK (dY++fK (p.take i)) (Sum.inl ((m:Int)+2)) (.int (((I.map V.ref++[V.ref t]).length:Int)-1+2))=dY++fK (p.take (i+1)):=by
     have h1:=xK1 yS;have h2:p.take (i+1)=p.take i++[m]:=by
      rw[Vw,S];rfl
     rw[h2,<- h1,Oy];congr 1;rw[j7];congr 1;lia
    have Fv:∀v:V,v=.int (((I.map V.ref++[V.ref t]).length:Int)-1+2)->putK (dY++fK (p.take i)) (Sum.inl ((m:Int)+2)) v=dY++fK (p.take (i+1)):=λv hv=>by rw[hv];exact zU
    refine⟨?_,?_,?_,⟨I++[t],?_,?_,?_⟩,_,rfl⟩
    ·intro b o z;rw[bo (ck z hg),bo (ck z hDH)];exact O _ _ (W _ _ z)
    ·rw[bo nLg,bo nLD];exact O _ _ Qg
    ·rw[aX,Fv _ rfl]
    ·rw[bo (Z2 X),aX,TY]
    ·rw[Zk,P0,ZT,nH];show i+1=_;lia
    ·intro j b r0 G M;have Nu:∀{c:ae}{u:List V},H4 c=some (.tup u)->c≠g/\c≠D:=λ{c u} e=>⟨(λz=>by rw[z,O _ _ R]at e;cases e),(λz=>by rw[z,wF]at e;cases e)⟩;have lN:(told rows p).take (i+1)=(told rows p).take i++[r.map (nm p)]:=by rw[Vw,Z];rfl
     rw[lN]at M;by_cases hj:j<i
     ·rw[Zm 'a']at G;rw[Zm (by rw[ZT,nH];lia)]at M;have hb:=O _ _ (PZ j b r0 G M);rw[bo (Nu hb).1,bo (Nu hb).2];exact hb
     ·rw[Zs 'a']at G;rw[Zs (by rw[ZT,nH];lia)]at M;have Bg:j-I.length=0:=by
       have:=(cx G).1;simp at this;lia
      have Pm:j-((told rows p).take i).length=0:=by
       rw[ZT,nH];lia
      rw[Bg]at G;rw[Pm]at M;have eb:b=t:=by simpa using G.symm
      have er:r0=r.map (nm p):=by simpa using M.symm
      rw[eb,er,bo (Nu L).1,bo ntD];exact L
  ·rintro σ C ⟨W,Qg,R,jX,v5,rfl⟩;rw[dM,Y9]at R;have lN:(told rows p).take (vN p).length=told rows p:=by rw[dM];exact WG (by rw[nH];exact Zg _)
   rw[lN]at jX;obtain⟨I,kJ,vK,PZ⟩:=jX;have dg:cS C g (.int (J:Int)) (some (.int (nm p J:Nat))):=by
    have:=cS.k (k:=Sum.inl (J:Int)) R;rw[KI Ji]at this;exact this
   refine⟨_,rfl,_,rfl,_,rfl,g,_,rfl,dg,_,rfl,D,_,rfl,.inl ⟨bY.of kJ,λl hl=>⟨(by show 3<=sizeLine;decide),λt L=>?_⟩⟩⟩;exact q _ t ((W.trans (bF hl)).trans (bF L)) ⟨l,aX,I,dZ aX L,vK,λi b r G M=>dZ (dZ (PZ i b r G M) hl) L⟩
end
end Pr
namespace Qf
open Tr
def ky(a b c d:Tr):Tr:=if a=z/\b=z/\c=z/\d=z then z else if a=o/\b=o/\c=o/\d=o then o else .nd a b c d
def ins(t:Tr)(L:List Tr):List Tr:=if t=z\/t=o\/t∈L then L else L++[t]
theorem LZ(t:Tr)(L:List Tr):∃s,ins t L=L++s/\s.length<=1:=by
 unfold ins;split
 ·exact⟨[],by simp,by decide⟩
 ·exact⟨[t],rfl,Zg 1⟩
theorem RJ(t:Tr)(L:List Tr):In (ins t L) t:=by
 unfold ins;split
 ·assumption
 ·exact .inr (.inr 'b')
theorem Sn{L:List Tr}(h:Ord L){a b c d:Tr}(C:In L a)(hb:In L b)(hc:In L c)(B:In L d):Ord (ins (ky a b c d) L):=by
 unfold ins;split
 ·exact h
 ·rename_i f;have e:ky a b c d=.nd a b c d:=by
   unfold ky at f ⊢;split
   ·rename_i h1;rw[Zr h1]at f;exact absurd (.inl rfl) f
   ·rename_i h1;rw[Zi h1]at f;split
    ·rename_i h2;rw[Zr h2]at f;exact absurd (.inr (.inl rfl)) f
    ·rfl
  rw[e]at f ⊢;have nm:Tr.nd a b c d∉L:=λz=>f (.inr (.inr z));refine⟨?_,?_⟩
  ·rw[Yk];exact⟨h.nd,by simp,λx r y A e=>nm (by
    have:y=.nd a b c d:=by simpa using A
    rw[<- this,<- e];exact r)⟩
  ·intro i t k;by_cases v:i<L.length
   ·rw[Zm v]at k;obtain⟨h1,h2⟩:=h.ch i t k;refine⟨h1,λs l=>(h2 s l).imp id λh=>h.imp id λ⟨j,g,e⟩=>⟨j,g,?_⟩⟩;rw[Zm 'a'];exact e
   ·have m:=(cx k).1;rw[Zk]at m;have w:i=L.length:=by simp at m;lia
    subst w;have u:t=.nd a b c d:=by simpa using k.symm
    subst u;refine⟨⟨a,b,c,d,rfl⟩,λs l=>?_⟩;have q:In L s:=by
     have:s=a\/s=b\/s=c\/s=d:=by simpa[kids]using l
     rcases this with rfl|rfl|rfl|rfl<;>assumption
    refine q.imp id λh=>h.imp id λp=>?_;obtain⟨j,g,e⟩:=ZM.mp p;exact⟨j,g,by rw[Zm g,Zd g,e]⟩
theorem RI{a b c d:Tr}(h1:¬(a=z/\b=z/\c=z/\d=z))(h2:¬(a=o/\b=o/\c=o/\d=o)):ky a b c d=.nd a b c d:=by
 unfold ky;rw[Zi h1,Zi h2]
theorem ir{L:List Tr}{a b c d:Tr}:fJ [name L a,name L b,name L c,name L d]<->(a=z/\b=z/\c=z/\d=z)\/(a=o/\b=o/\c=o/\d=o):=by
 constructor
 ·rintro(e|e)
  ·simp only[XG,Vx]at e;exact .inl ⟨vh e.1,vh e.2.1,vh e.2.2.1,vh e.2.2.2⟩
  ·simp only[XG,Vx]at e;exact .inr ⟨vb e.1,vb e.2.1,vb e.2.2.1,vb e.2.2.2⟩
 ·rintro(⟨rfl,rfl,rfl,rfl⟩|⟨rfl,rfl,rfl,rfl⟩)
  ·exact .inl rfl
  ·exact .inr rfl
end Qf
namespace Pr
open PySem L2 Qf
theorem kn:¬(("kept":aq)="numbers"):=by decide +kernel
def sH(k d:ae):List (aq×V):=aY "numbers" (.ref d) (aY "kept" (.ref k) [])
theorem LF(k d:ae):(sH k d).lookup ("kept":aq)=some (.ref k):=by
 unfold sH;rw[dN,Zi kn,dN,Zr rfl]
theorem HJ(k d:ae):(sH k d).lookup ("numbers":aq)=some (.ref d):=by
 unfold sH;rw[dN,Zr rfl]
theorem TN(k d:ae){m:aq}(h1:¬m="numbers")(h2:¬m="kept"):(sH k d).lookup m=none:=by
 unfold sH;rw[dN,Zi h1,dN,Zi h2]
 all_goals rfl
structure bf(C:ae)(H:Hp)(p k d:ae)(L:List Tr):Prop where
 ob:∃dx,H p=some (.ins C dx (sH k d))
 kp:cF H k (Tr.rowsOf L)
 dc:H d=some (.dT (tK (Tr.rowsOf L)))
 od:Tr.Ord L
structure fz(K:PySem.W.Frag)(mg:aq->Option aa)(C:ae):Prop where
 cl:pL K C
 nK:a_ K C "kept"
 nN:a_ K C "numbers"
 NL:mg "Book"=some (.ref C)
def dB(k d:ae)(H a:Hp):Prop:=∀b o,H b=some o->b≠k->b≠d->a b=some o
theorem dB.trans{k d:ae}{H e g:Hp}(a:dB k d H e)(b:dB k d e g):dB k d H g:=λc o h i f=>b c o (a c o h i f) i f
theorem dB.of{k d:ae}{H a:Hp}(s:aC H a):dB k d H a:=λb o h _ _=>s b o h
section
variable{mg:aq->Option aa}{base:ao}
theorem xP7:aE ["self"] ["self"] (cg IK):=cZ
def SU(C:ae):Sp:=λb H Q _=>∃(p c:ae),b=[.ref p]/\H p=some (.ins C c [])/\∀(k d:ae)(a:Hp),H k=none->H d=none->bf C a p k d []->bJ p H a->Q .cA a
theorem xK4{f C:ae}{D:ai}(F:aP K "__init__" "Book.__init__" IK f D)(T:fz K mg C):aB P w K mg base aJ 1 f D ["self"] (SU C):=by
 refine F.ok xP7 (λG H Q E h=>?_) (λJ A m s H G Q E I h=>?_)
 ·obtain⟨p,c,rfl,_⟩:=h
  rfl
 ·obtain⟨p,c,rfl,x,q⟩:=h;refine aO ⟨_,⟨tI (pv 0) (iI aH) rfl⟩,?_⟩;refine fV ⟨_,⟨tI (pv 0) MQ rfl⟩,?_⟩;refine⟨(by show 0<=sizeLine;decide),λk j=>?_⟩;have u:p≠k:=ck x j;refine⟨_,rfl,p,C,c,[],rfl,(by rw[bo u];exact x),T.cl,T.nK,(by show 0<1000;decide),λd g=>?_⟩;have a:upd (upd H k (.lst [])) p (.ins C c (aY "kept" (.ref k) [])) k=some (.lst []):=by rw[bo (Z2 u),aX]
  have v:k≠d:=ck a g;have l:p≠d:=ck aX g;have B:H d=none:=by
   rw[bo (Z2 l),bo (Z2 v)]at g;exact g
  refine⟨_,rfl,p,C,c,_,rfl,(by rw[bo l];exact aX),T.cl,T.nN,(by show 1<1000;decide),?_⟩;refine q k d _ j B ⟨⟨c,aX⟩,⟨[],?_,rfl,λi b r e=>by simp at e⟩,?_,Tr.lI⟩ λb o e y=>?_
  ·rw[bo (Z2 u),bo v];exact a
  ·rw[bo (Z2 l),aX];rfl
  ·rw[bo y,bo (ck e B),bo y,bo (ck e j)];exact e
theorem xP8:aE ["self","row"] ["self","row"] (cg C7):=cZ
def K2(C:ae):Sp:=λh H Q _=>∃(p k d b:ae)(L:List Tr)(e c f a:Tr),h=[.ref p,.ref b]/\bf C H p k d L/\H b=some (.tup (vN [Tr.name L e,Tr.name L c,Tr.name L f,Tr.name L a]))/\Tr.In L e/\Tr.In L c/\Tr.In L f/\Tr.In L a/\L.length<=1190990 /\
 ∀g,dB k d H g->bf C g p k d (ins (ky e c f a) L)->Q (.int (Tr.name (ins (ky e c f a) L) (ky e c f a):Nat)) g
theorem RH{f fP C:ae}{fd iB:ai}(F:aP K "number_for" "Book.number_for" C7 f fd)(B:d_ mg)(Tc:lh mg)(T:fz K mg C)
  (hP:mg "is_plain"=some (.ref fP)) (FP:aP K "is_plain" "is_plain" uW fP iB) (bP:Binds K iB ["row"] []):aB P w K mg base aJ 3 f fd ["self","row"] (K2 C):=by
 have GP:aB P w K mg base aJ 2 fP iB ["row"] IG:=MG FP Tc;obtain⟨tf,kA⟩:=Tc.first;refine F.ok xP8 (λvs H Q E h=>?_) (λbp A outer s H vs Q E hr h=>?_)
 ·obtain⟨p,k,d,b,L,x,m,g,l,rfl,_⟩:=h
  rfl
 ·obtain⟨p,k,d,b,L,x,m,g,l,rfl,hB,hb,i0,i1,i2,i3,hL,q⟩:=h;have hu:A.units+3+1<cLine:=by
   have h2:A.units+3+16*2+200<cLine:=hr.un;lia
  refine aO ⟨_,⟨c9 (il (bZ GP hr hP FP.kp bP (aD (pv 1) aH))) (cm (cj (cO gb (pv 1) aR))) c_⟩,?_⟩;refine aO ⟨_,⟨c9 (uZ (HU hu (pv 1) (ju (pv 0) rfl)))
   (oW.go (.cons ⟨AE hu (ju (pv 0) rfl) (pv 1) (cy iR (cQ iq 'd' B.len ZF (aD (ju (pv 0) rfl) aH)) (cX (v:=.int 2) 'd' kA ⟨_,rfl⟩)) 'd'⟩
    (.one ⟨ip (vo Ye Ym Yn tP (ju (pv 0) rfl) (aD (pv 1) aH))⟩))) c_⟩,?_⟩
  refine fV ⟨_,⟨cj (AF hu (ju (pv 0) rfl) (pv 1) (λ_ _=>rfl))⟩,?_⟩;refine⟨_,rfl,b,_,rfl,hb,rfl,λy I=>⟨_,rfl,?_⟩⟩;obtain⟨⟨dx,hp⟩,⟨bs,hk,wO,jA⟩,hd,U⟩:=id hB;have B1:bf C y p k d L:=⟨⟨dx,I _ _ hp⟩,⟨bs,I _ _ hk,wO,λi c r M N=>I _ _ (jA i c r M N)⟩,I _ _ hd,U⟩;have G:=I _ _ hb;refine dD (λhc=>?_) (λhc=>?_)
  ·rcases ir.mp (ZI hc)with⟨rfl,rfl,rfl,rfl⟩|⟨rfl,rfl,rfl,rfl⟩
   ·exact⟨_,rfl,b,_,0,.int (0:Nat),rfl,rfl,aQ.of G,rfl,q y (dB.of I) B1⟩
   ·exact⟨_,rfl,b,_,0,.int (1:Nat),rfl,rfl,aQ.of G,rfl,q y (dB.of I) B1⟩
  ·have hn:=λz=>hc (Zq (ir (L:=L).mpr z));have em:ky x m g l=.nd x m g l:=RI (λz=>hn (.inl z)) (λz=>hn (.inr z));rw[em]at q;have ET:∀s∈Tr.kids (.nd x m g l),Tr.In L s:=λs hs=>by
    have:s=x\/s=m\/s=g\/s=l:=by simpa[Tr.kids]using hs
    rcases this with rfl|rfl|rfl|rfl<;>assumption
   have kN:=xB1 U ET;have oP:(Tr.kids (.nd x m g l)).map (Tr.name L)=[Tr.name L x,Tr.name L m,Tr.name L g,Tr.name L l]:=rfl;rw[oP]at kN;have W:y b=some (.tup ((aU [Tr.name L x,Tr.name L m,Tr.name L g,Tr.name L l]).map kV)):=by rw[sg];exact G
   obtain⟨⟨R,J⟩,⟨D,O,zI,Ew⟩,S,_⟩:=id B1;refine⟨_,rfl,_,rfl,p,C,R,_,_,rfl,J,T.cl,T.nN,HJ _ _,d,_,rfl,cS.t S W,_,rfl,?_⟩;rw[RT];by_cases X:[Tr.name L x,Tr.name L m,Tr.name L g,Tr.name L l]∈Tr.rowsOf L
   ·rw[Zr X];refine b_ ?_;have hT:=kN.mp X;have Z:ins (.nd x m g l) L=L:=by unfold ins;rw[Zr (.inr (.inr hT))]
    rw[Z]at q;exact⟨_,rfl,p,C,R,_,_,rfl,J,T.cl,T.nN,HJ _ _,_,rfl,d,_,rfl,RO U hT S G,q y (dB.of I) B1⟩
   ·rw[Zi X];refine cB ?_;have hT:Tr.nd x m g l∉L:=λz=>X (kN.mpr z);have Z:ins (.nd x m g l) L=L++[.nd x m g l]:=by
     unfold ins;rw[Zi];rintro(z|z|z)
     ·cases z
     ·cases z
     ·exact hT z
    have O5:=Sn U i0 i1 i2 i3;rw[em,Z]at O5;rw[Z]at q;have er:=q30 U ET;rw[oP]at er;have j8:(tK (Tr.rowsOf L)).length=L.length:=by unfold tK;rw[yg,Tr.bc]
    have E8:(D.map V.ref).length=L.length:=by rw[Ze,zI,Tr.bc]
    have y_:p≠d:=λz=>by rw[z,S]at J;cases J
    have DL:k≠d:=λz=>by rw[z,S]at O;cases O
    have DF:p≠k:=λz=>by rw[z,O]at J;cases J
    have nbd:b≠d:=λz=>by rw[z,S]at G;cases G
    have nbk:b≠k:=λz=>by rw[z,O]at G;cases G
    have dq:=gZ.t (v:=.int (((D.map V.ref).length:Int)+2)) S W (by rw[j8];exact ml 'a');refine⟨_,rfl,p,C,R,_,_,rfl,J,T.cl,T.nK,LF _ _,k,_,rfl,.inl (bY.of O),_,_,rfl,rfl,_,rfl,p,C,R,_,_,rfl,J,T.cl,T.nN,HJ _ _,_,rfl,d,_,rfl,dq,?_⟩;have zU:putK (tK (Tr.rowsOf L)) (aU [Tr.name L x,Tr.name L m,Tr.name L g,Tr.name L l]) (.int (((D.map V.ref).length:Int)+2))=tK (Tr.rowsOf (L++[.nd x m g l])):=by
     have h1:=MC (key:=aU) (k:=2) (λa b=>vd) X;rw[er,E8];unfold tK;rw[<- h1,Tr.bc];congr 2;lia
    rw[zU];have jM:upd y d (.dT (tK (Tr.rowsOf (L++[.nd x m g l])))) p=some (.ins C R (sH k d)):=by rw[bo y_];exact J
    have vS:upd y d (.dT (tK (Tr.rowsOf (L++[.nd x m g l])))) k=some (.lst (D.map V.ref)):=by rw[bo DL];exact O
    refine⟨_,rfl,p,C,R,_,_,rfl,jM,T.cl,T.nK,LF _ _,.inl ⟨rfl,_,bY.of vS⟩,_,rfl,k,_,.ref b,rfl,rfl,vS,by rw[E8];exact ml 'a',?_⟩;have xw:∀{c:ae}{u:List V},y c=some (.tup u)->upd (upd y d (.dT (tK (Tr.rowsOf (L++[.nd x m g l]))))) k (.lst (D.map V.ref++[.ref b])) c=some (.tup u):=λ{c u} e=>by
     have n1:c≠k:=λz=>by rw[z,O]at e;cases e
     have n2:c≠d:=λz=>by rw[z,S]at e;cases e
     rw[bo n1,bo n2];exact e
    have B3:bf C (upd (upd y d (.dT (tK (Tr.rowsOf (L++[.nd x m g l]))))) k (.lst (D.map V.ref++[.ref b]))) p k d (L++[.nd x m g l]):=by
     refine⟨⟨R,by rw[bo DF];exact jM⟩,⟨D++[b],by rw[aX,TY],?_,?_⟩,by rw[bo (Z2 DL),aX],O5⟩
     ·rw[Zk,zI,Tr.bc,Tr.bc,Zk];rfl
     ·intro j c r M N;rw[er]at N;have hbl2:D.length=L.length:=by rw[zI,Tr.bc]
      by_cases hj:j<L.length
      ·rw[Zm 'a']at M;rw[Zm (by rw[Tr.bc];exact hj)]at N;exact xw (Ew j c r M N)
      ·rw[Zs 'a']at M;rw[Zs (by rw[Tr.bc];lia)]at N;have Bg:j-D.length=0:=by
        have:=(cx M).1;simp at this;lia
       have Pm:j-(Tr.rowsOf L).length=0:=by rw[Tr.bc];lia
       rw[Bg]at M;rw[Pm]at N;have ec:c=b:=by simpa using M.symm
       have QD:r=[Tr.name L x,Tr.name L m,Tr.name L g,Tr.name L l]:=by simpa using N.symm
       rw[ec,QD];exact xw G
    have E7:=xw G;have X3:dB k d y (upd (upd y d (.dT (tK (Tr.rowsOf (L++[.nd x m g l]))))) k (.lst (D.map V.ref++[.ref b]))):=λc o e n1 n2=>by rw[bo n1,bo n2];exact e
    generalize upd (upd y d (.dT (tK (Tr.rowsOf (L++[.nd x m g l]))))) k (.lst (D.map V.ref++[.ref b]))=H3 at B3 E7 X3 ⊢;obtain⟨⟨Fz,jQ⟩,_,jZ,_⟩:=id B3;have Y:∀s,Tr.In L s->Tr.name (L++[.nd x m g l]) s=Tr.name L s:=λs hs=>Tr.dw hs U;exact⟨_,rfl,p,C,Fz,_,_,rfl,jQ,T.cl,T.nN,HJ _ _,_,rfl,d,_,rfl,RO (a:=x) (b:=m) (c:=g) (d:=l) O5 'b' jZ (by rw[E7,Y x i0,Y m i1,Y g i2,Y l i3]),q H3 ((dB.of I).trans X3) B3⟩
end
end Pr
namespace Qf
open Tr
def cR(rows:List Row)(L:List Tr):Nat->List Tr
 |0=>L
 |i+1=>ins (T rows (i+2)) (cR rows L i)
theorem SS{rows:List Row}(ok:cz rows)(v:∀r∈rows,¬fJ r){p a b c e:Nat}(d:rows[p]?=some [a,b,c,e]):ky (T rows a) (T rows b) (T rows c) (T rows e)=T rows (p+2):=by
 have g:=(ok p _ d).2;have y:=(cx d).1;have f:∀q,q<rows.length+2->(T rows q=z<->q=0)/\(T rows q=o<->q=1):=λq w=>by
  by_cases s:q<2
  ·match q,s with
   |0,_=>rw[iP];exact⟨⟨λ_=>rfl,λ_=>rfl⟩,⟨λh=>(nomatch h),λh=>(nomatch h)⟩⟩
   |1,_=>rw[iH];exact⟨⟨λh=>(nomatch h),λh=>(nomatch h)⟩,⟨λ_=>rfl,λ_=>rfl⟩⟩
  ·obtain⟨C,B,D,A,x,rfl,u⟩:=mj ok w s;rw[km ok u];exact⟨⟨λh=>(nomatch h),λh=>by lia⟩,⟨λh=>(nomatch h),λh=>by lia⟩⟩
 have m:=f a (by have:=g a 'b';lia);have i:=f b (by have:=g b 'b';lia);have j:=f c (by have:=g c 'b';lia);have l:=f e (by have:=g e 'b';lia);have k:=v _ (Zo d);rw[km ok d];refine RI (λh=>k (.inl ?_)) (λh=>k (.inr ?_))
 ·rw[m.1.mp h.1,i.1.mp h.2.1,j.1.mp h.2.2.1,l.1.mp h.2.2.2]
 ·rw[m.2.mp h.1,i.2.mp h.2.1,j.2.mp h.2.2.1,l.2.mp h.2.2.2]
theorem CG(rows:List Row)(L:List Tr):∀i,∃s,cR rows L i=L++s/\s.length<=i
 |0=>⟨[],by simp[cR],Zg _⟩
 |i+1=>by
  obtain⟨s,e,d⟩:=CG rows L i;obtain⟨a,b,c⟩:=LZ (T rows (i+2)) (cR rows L i);exact⟨s++a,by show ins _ _=_;rw[b,e,Z6],by rw[Zk];lia⟩
theorem Uu{rows:List Row}{L:List Tr}(i:Nat):∃s,cR rows L (i+1)=cR rows L i++s:=by
 obtain⟨s,e,_⟩:=LZ (T rows (i+2)) (cR rows L i);exact⟨s,e⟩
theorem tJ{rows:List Row}{L:List Tr}:∀i x,x<i+2->In (cR rows L i) (T rows x)
 |0,x,a=>by
  match x,a with
  |0,_=>exact .inl (iP _)
  |1,_=>exact .inr (.inl (iH _))
 |i+1,x,a=>by
  by_cases e:x=i+2
  ·rw[e];exact RJ _ _
  ·obtain⟨s,b⟩:=Uu (rows:=rows) (L:=L) i;rw[b];exact(tJ i x 'a').app
theorem CF{rows:List Row}(ok:cz rows)(g:∀r∈rows,¬fJ r){L:List Tr}(h:Ord L):∀i,i<=rows.length->Ord (cR rows L i)
 |0,_=>h
 |i+1,l=>by
  have k:=CF ok g h i 'a';obtain⟨a,b,c,d,e⟩:=Az (ok i _ (Zd (show i<rows.length by lia))).1;have j:rows[i]?=some [a,b,c,d]:=by rw[Zd 'a',e]
  have f:=(ok i _ j).2;show Ord (ins (T rows (i+2)) (cR rows L i));rw[<- SS ok g j];exact Sn k (tJ i a (f a 'b')) (tJ i b (f b 'b')) (tJ i c (f c 'b')) (tJ i d (f d 'b'))
def dn(rows:List Row)(L:List Tr)(i:Nat):List Nat:=(List.range (i+2)).map λx=>name (cR rows L i) (T rows x)
theorem xg2{rows:List Row}(ok:cz rows)(a:∀r∈rows,¬fJ r){L:List Tr}(h:Ord L){i:Nat}(c:i<rows.length):dn rows L (i+1)=dn rows L i++[name (cR rows L (i+1)) (T rows (i+2))]:=by
 unfold dn;rw[XE,ZW];congr 1;refine Yx λx b=>?_;obtain⟨s,e⟩:=Uu (rows:=rows) (L:=L) i;rw[e];exact dw (tJ i x (ZX.mp b)) (CF ok a h i 'a')
end Qf
namespace Pr
open PySem L2 Qf
section
variable{mg:aq->Option aa}{base:ao}
def RG:Sp:=λd H Q _=>∃(b g:ae)(r:Row)(c:List Nat)(f:Nat->Nat),d=[.ref b,.ref g]/\H b=some (.tup (vN r))/\r.length=4/\H g=some (.lst (vN c))/\(∀q∈r,c[q]?=some (f q)) /\
 ∀(a:Hp)(t:ae),aC H a->a t=some (.tup (vN (r.map f)))->Q (.ref t) a
theorem xC6{f:ae}{k:ai}(F:aP K "renumbered" "renumbered" uV f k)(B:d_ mg):aB P w K mg base aJ 1 f k ["row","numbers"] RG:=by
 refine F.ok iF (λL H Q E h=>?_) (λY A e s H L Q E W h=>?_)
 ·obtain⟨b,g,r,O,f,rfl,_⟩:=h
  rfl
 ·obtain⟨b,g,r,O,c,rfl,hb,u,v,R,q⟩:=h;refine fV ⟨_,⟨cj (hZ (l6 K rfl) 'd' B.tuple ZE (aD (oB ["row","numbers"] (cg uV) rfl rfl rfl iF.nd (sr (pv 0)) (λcl C U aG V=>cO (zk K rfl) (pv 2) (pv 0))) aH))⟩,?_⟩;refine⟨_,rfl,b,rfl,⟨_,aQ.of hb⟩,λD G=>oG G (λi z _=>∃m:Nat,r[i]?=some m/\z=.int (c m:Nat)) (pA (K:=K) hb) (by rw[dM,u];decide) (λ_ _ _ _ _ _ h=>h) ?_ ?_⟩
  ·intro i x S Z d j X N;obtain⟨m,a,rfl⟩:=mZ d;exact⟨_,rfl,_,rfl,g,_,(m:Int),.int (c m:Nat),rfl,rfl,bY.of (j _ _ v),kr (tQ (R m (Zo a))),N _ _ (aC.refl _) ⟨m,a,rfl⟩⟩
  ·intro p S j M I y;have J:p=vN (r.map c):=by
    refine pz (by rw[I,dM,dM,Ze]) λi x d=>?_;obtain⟨m,a,rfl⟩:=y i x d;exact tQ (by rw[Zf,a];rfl)
   subst J;exact⟨D,_,rfl,.inl ⟨bY.of M,λl T=>q _ l (j.trans (bF T)) aX⟩⟩
end
end Pr
namespace Qf
open Tr
def neg:Tr->Tr
 |.z=>.o
 |.o=>.z
 |.nd a b c d=>.nd (neg a) (neg b) (neg c) (neg d)
theorem Dg:∀t,dep (neg t)=dep t
 |.z=>rfl
 |.o=>rfl
 |.nd a b c d=>by
  show 1+mx [dep (neg a),dep (neg b),dep (neg c),dep (neg d)]=1+mx [dep a,dep b,dep c,dep d];rw[Dg a,Dg b,Dg c,Dg d]
theorem oJ{t:Tr}:neg t=z<->t=o:=by cases t<;>simp[neg]
theorem oK{t:Tr}:neg t=o<->t=z:=by cases t<;>simp[neg]
theorem Df:∀{t:Tr},Red t->Red (neg t)
 |.z,_=>trivial
 |.o,_=>trivial
 |.nd a b c d,h=>by
  obtain⟨h1,h2,i,hb,g,f⟩:=h;refine⟨λe=>h2 ?_,λe=>h1 ?_,Df i,Df hb,Df g,Df f⟩
  ·exact⟨oJ.mp e.1,oJ.mp e.2.1,oJ.mp e.2.2.1,oJ.mp e.2.2.2⟩
  ·exact⟨oK.mp e.1,oK.mp e.2.1,oK.mp e.2.2.1,oK.mp e.2.2.2⟩
theorem Sm(rows:List Row):(gT rows).length=rows.length:=by simp[gT]
theorem xK6{rows:List Row}{p:Nat}{r:Row}(h:rows[p]?=some r):(gT rows)[p]?=some (r.map ex):=by
 unfold gT;rw[Zf,h];rfl
theorem Sl{q:Nat}(h:¬q<2):ex q=q:=Zi h
theorem xP9{rows:List Row}(ok:cz rows):∀x,x<rows.length+2->T (gT rows) (ex x)=neg (T rows x):=by
 intro x
 induction x using Nat.strongRecOn with
 |ind x e=>
  intro h;by_cases z:x<2
  ·match x,z with
   |0,_=>rw[iP];exact iH _
   |1,_=>rw[iH];exact iP _
  ·obtain⟨p,a,b,c,d,rfl,f⟩:=mj ok h z;have g:=(ok p _ f).2;have m:=(cx f).1;have j:=g a 'b';have i:=g b 'b';have l:=g c 'b';have k:=g d 'b';rw[Sl z,km ok f,km (Iq ok) (xK6 f),e a j 'a',e b i 'a',e c l 'a',e d k 'a']
   rfl
theorem KA{rows:List Row}(a:∀r∈rows,¬fJ r):∀r∈gT rows,¬fJ r:=λr c h=>by
 obtain⟨q,b,rfl⟩:=ZV.mp c;have e:(q.map ex).map ex=q:=by
  rw[Xm];refine(Yx λx _=>xO1 x).trans (List.map_id' q)
 refine a q b ?_;rcases h with h|h
 ·rw[h]at e;exact .inr e.symm
 ·rw[h]at e;exact .inl e.symm
theorem Ut(a b c d:Tr):(a=z/\b=z/\c=z/\d=z)/\ky a b c d=z\/(a=o/\b=o/\c=o/\d=o)/\ky a b c d=o\/(¬(a=z/\b=z/\c=z/\d=z)/\¬(a=o/\b=o/\c=o/\d=o))/\ky a b c d=.nd a b c d:=by
 unfold ky;split
 ·exact .inl ⟨by assumption,rfl⟩
 ·split
  ·exact .inr (.inl ⟨by assumption,rfl⟩)
  ·exact .inr (.inr ⟨⟨by assumption,by assumption⟩,rfl⟩)
theorem xC7{a b c d:Tr}(g:Red a)(hb:Red b)(hc:Red c)(f:Red d):Red (ky a b c d):=by
 rcases Ut a b c d with⟨_,e⟩|⟨_,e⟩|⟨⟨h1,h2⟩,e⟩
 ·rw[e];trivial
 ·rw[e];trivial
 ·rw[e];exact⟨h1,h2,g,hb,hc,f⟩
theorem xC8{a b c d:Tr}{s:Nat}(g:dep a<=s)(hb:dep b<=s)(hc:dep c<=s)(f:dep d<=s):dep (ky a b c d)<=s+1:=by
 rcases Ut a b c d with⟨_,e⟩|⟨_,e⟩|⟨_,e⟩
 ·rw[e];exact ZU _
 ·rw[e];exact ZU _
 ·rw[e];exact xJ7 g hb hc f
theorem Sk{L:List Tr}{t:Tr}(h:o8 L)(b:Red t):o8 (ins t L):=by
 unfold ins;split
 ·exact h
 ·intro u a;rcases Z8.mp a with z|z
  ·exact h u z
  ·have:u=t:=by simpa using z
   rw[this];exact b
theorem Ms{rows:List Row}(ok:cz rows)(a:∀r∈rows,¬fJ r){L:List Tr}(h:o8 L):∀i,i<=rows.length->o8 (cR rows L i)
 |0,_=>h
 |i+1,b=>Sk (Ms ok a h i 'a') (Gx ok a _ 'a')
def sG(x:Nat):Tr:=if x=1 then .o else .z
def aZ(e f:Nat)(t:Tr):Tr:=if e=f then sG e else if e=0 then t else neg t
def cV(u:Nat->Nat->Nat):Tr->Tr->Tr
 |.z,t=>aZ (u 0 0) (u 0 1) t
 |.o,t=>aZ (u 1 0) (u 1 1) t
 |.nd a b c d,.z=>aZ (u 0 0) (u 1 0) (.nd a b c d)
 |.nd a b c d,.o=>aZ (u 0 1) (u 1 1) (.nd a b c d)
 |.nd a b c d,.nd e f h g=>ky (cV u a e) (cV u b f) (cV u c h) (cV u d g)
def Oc(u:Nat->Nat->Nat):Prop:=∀i j,u i j<2
theorem xq2(x:Nat):Red (sG x):=by unfold sG;split<;>trivial
theorem xq3(x s:Nat):dep (sG x)<=s:=by unfold sG;split<;>exact ZU _
theorem HX{e f:Nat}{t:Tr}(h:Red t):Red (aZ e f t):=by
 unfold aZ;split
 ·exact xq2 _
 ·split
  ·exact h
  ·exact Df h
theorem HW{e f s:Nat}{t:Tr}(h:dep t<=s):dep (aZ e f t)<=s:=by
 unfold aZ;split
 ·exact xq3 _ _
 ·split
  ·exact h
  ·rw[Dg];exact h
theorem Ho{e f:Nat}(a:e<2):aZ e f z=sG e:=by
 unfold aZ;split
 ·rfl
 ·split
  ·rename_i h;rw[h];rfl
  ·have:e=1:=by lia
   rw[this];rfl
theorem Hn{e f:Nat}(a:e<2)(b:f<2):aZ e f o=sG f:=by
 unfold aZ;split
 ·rename_i h;rw[h]
 ·split
  ·have:f=1:=by lia
   rw[this];rfl
  ·have:f=0:=by lia
   rw[this];rfl
theorem xC9{u:Nat->Nat->Nat}(e:Oc u)(s:Tr):cV u s z=aZ (u 0 0) (u 1 0) s:=by
 cases s with
 |z=>show aZ _ _ _=_;rw[Ho (e 0 0),Ho (e 0 0)]
 |o=>show aZ _ _ _=_;rw[Ho (e 1 0),Hn (e 0 0) (e 1 0)]
 |nd a b c d=>rfl
theorem xD0{u:Nat->Nat->Nat}(e:Oc u)(s:Tr):cV u s o=aZ (u 0 1) (u 1 1) s:=by
 cases s with
 |z=>show aZ _ _ _=_;rw[Hn (e 0 0) (e 0 1),Ho (e 0 1)]
 |o=>show aZ _ _ _=_;rw[Hn (e 1 0) (e 1 1),Hn (e 0 1) (e 1 1)]
 |nd a b c d=>rfl
theorem AN(u:Nat->Nat->Nat):∀(s t:Tr),Red s->Red t->Red (cV u s t)
 |.z,t,_,h=>HX h
 |.o,t,_,h=>HX h
 |.nd a b c d,.z,h,_=>HX h
 |.nd a b c d,.o,h,_=>HX h
 |.nd a b c d,.nd f g j i,h,e=>xC7 (AN u a f h.2.2.1 e.2.2.1) (AN u b g h.2.2.2.1 e.2.2.2.1) (AN u c j h.2.2.2.2.1 e.2.2.2.2.1) (AN u d i h.2.2.2.2.2 e.2.2.2.2.2)
theorem CN(u:Nat->Nat->Nat):∀(n:Nat)(s t:Tr),dep s<=n->dep t<=n->dep (cV u s t)<=n
 |n,.z,t,_,h=>HW h
 |n,.o,t,_,h=>HW h
 |n,.nd a b c d,.z,h,_=>HW h
 |n,.nd a b c d,.o,h,_=>HW h
 |0,.nd a b c d,.nd e f i g,h,j=>by
  have:1+mx [dep a,dep b,dep c,dep d]<=0:=h;lia
 |n+1,.nd a b c d,.nd e f i g,h,j=>by
  obtain⟨h1,h2,q,r⟩:=Sx h;obtain⟨k,p,l,m⟩:=Sx j;exact xC8 (CN u n a e h1 k) (CN u n b f h2 p) (CN u n c i q l) (CN u n d g r m)
def Dy(r1 r2:Nat):List (Nat×Nat):=(List.range r1).flatMap λx=>(List.range r2).map λy=>(x,y)
theorem xD1(r1 r2:Nat):(Dy r1 r2).length=r1*r2:=by
 unfold Dy;rw[List.length_flatMap];have:∀l:List Nat,(l.map λx=>((List.range r2).map λy=>(x,y)).length).sum=l.length*r2:=λl=>by
  induction l with
  |nil=>simp
  |cons a l b=>rw[ZL,List.sum_cons,b,Ze,Z5,ZD,Nat.succ_mul,Vs]
 rw[this,Z5]
theorem xD2{r1 r2 x y:Nat}(a:x<r1)(b:y<r2):(x,y)∈Dy r1 r2:=by
 unfold Dy;rw[List.mem_flatMap];exact⟨x,ZX.mpr a,ZV.mpr ⟨y,ZX.mpr b,rfl⟩⟩
theorem Qw{a:Type}[DecidableEq a]{L L0:List a}{r1 r2:Nat}{f:Nat->Nat->a}(nd:L.Nodup)(h:∀t∈L,t∈L0\/∃x y,x<r1/\y<r2/\t=f x y):L.length<=L0.length+r1*r2:=by
 have:=nd.length_le_of_subset (l₂:=L0++(Dy r1 r2).map λp=>f p.1 p.2) λt c=>by
  rcases h t c with z|⟨x,y,b,d,rfl⟩
  ·exact YO _ z
  ·exact Z1 _ (ZV.mpr ⟨(x,y),xD2 b d,rfl⟩)
 rw[Zk,Ze,xD1]at this;exact this
end Qf
namespace Pr
open PySem L2 Qf
theorem bf.same{C:ae}{H a:Hp}{p k d:ae}{L:List Tr}(h:bf C H p k d L)(s:aC H a):bf C a p k d L:=by
 obtain⟨⟨g,f⟩,c,b,e⟩:=h;exact⟨⟨g,s _ _ f⟩,c.same s,s _ _ b,e⟩
theorem bf.tup{C:ae}{H a:Hp}{p k d:ae}{L:List Tr}(h:bf C H p k d L)(B:dB k d H a){x:ae}{u:List V}(e:H x=some (.tup u)):a x=some (.tup u):=by
 obtain⟨_,⟨bs,c,_⟩,b,_⟩:=h;exact B _ _ e (λz=>by rw[z,c]at e;cases e) (λz=>by rw[z,b]at e;cases e)
theorem bf.rows{C:ae}{H a:Hp}{p k d:ae}{L:List Tr}(h:bf C H p k d L)(B:dB k d H a){q:ae}{rows:List Row}(l:bq H q rows):bq a q rows:=by
 obtain⟨bs,g,b,e⟩:=l;exact⟨bs,h.tup B g,b,λi c r j f=>h.tup B (e i c r j f)⟩
theorem bf.put{C:ae}{H:Hp}{p k d D:ae}{L:List Tr}{xs ys:List V}(h:bf C H p k d L)(b:H D=some (.lst xs))(q:D≠k):bf C (upd H D (.lst ys)) p k d L:=by
 obtain⟨⟨u,e⟩,⟨bs,l,f,g⟩,a,m⟩:=h;refine⟨⟨u,?_⟩,⟨bs,?_,f,λi c r s j=>?_⟩,?_,m⟩
 ·rw[bo (λz=>by rw[z,b]at e;cases e)];exact e
 ·rw[bo (Z2 q)];exact l
 ·have:=g i c r s j;rw[bo (λz=>by rw[z,b]at this;cases this)];exact this
 ·rw[bo (λz=>by rw[z,b]at a;cases a)];exact a
theorem SR(k d:ae):(sH k d).lookup ("number_for":aq)=none:=TN k d (by decide +kernel) (by decide +kernel)
section
variable{mg:aq->Option aa}{base:ao}
theorem nA:aE ["self","rows","numbers","row"] ["self","rows"] (cg Mg):=cZ
def Kz(C:ae):Sp:=λe H Q _=>∃(p b c d:ae)(L:List Tr)(rows:List Row),e=[.ref p,.ref d]/\bf C H p b c L/\bq H d rows/\cz rows/\(∀r∈rows,¬fJ r)/\L.length+rows.length<=1190980 /\
 ∀(a:Hp)(g:ae),H g=none->dB b c H a->bf C a p b c (cR rows L rows.length)->a g=some (.lst (vN (dn rows L rows.length)))->Q (.ref g) a
theorem xD3{f Z fR fP C:ae}{fd gE Y iB:ai}(F:aP K "numbers_for" "Book.numbers_for" Mg f fd)(B:d_ mg)(Tc:lh mg)(jT:∃t,mg "EMPTY"=some (.int 0 t))(T:fz K mg C)
  (MN:Meth K C "number_for" Z) (FN:aP K "number_for" "Book.number_for" C7 Z gE) (bN:Binds K gE ["self","row"] [])
  (hR:mg "renumbered"=some (.ref fR)) (FR:aP K "renumbered" "renumbered" uV fR Y) (bR:Binds K Y ["row","numbers"] [])
  (hP:mg "is_plain"=some (.ref fP)) (FP:aP K "is_plain" "is_plain" uW fP iB) (bP:Binds K iB ["row"] []):aB P w K mg base aJ 4 f fd ["self","rows"] (Kz C):=by
 have GN:aB P w K mg base aJ 3 Z gE ["self","row"] (K2 C):=RH FN B Tc T hP FP bP;have GR:aB P w K mg base aJ 1 fR Y ["row","numbers"] RG:=xC6 FR B;obtain⟨tu,wS⟩:=Tc.full;obtain⟨te,wK⟩:=jT;refine F.ok nA (λvs H Q E h=>?_) (λbp A outer s H vs Q E hr h=>?_)
 ·obtain⟨p,M,R,S,L,rows,rfl,_⟩:=h
  rfl
 ·obtain⟨p,M,R,S,L,rows,rfl,y,I,ok,np,hl,q⟩:=h;have jC:aS 1 _:=hr.mono 'c';refine aO ⟨_,⟨eI 2 nA.nd (iI (aD (cX (v:=.int 0) 'd' wK ⟨_,rfl⟩) (aD (cX (v:=.int 1) 'd' wS ⟨_,rfl⟩) aH)))⟩,?_⟩;refine aO ⟨_,⟨o_ Yj rfl (sr (pv 1)) (dj 3 nA.nd)
   (cm (ip (df.go (Ij Ye Ym Yn tP ⟨pv 2⟩ (.cons ⟨AI (pv 0) T.cl MN GN hr bN .nil tU (cw.go (.cons ⟨bZ GR jC hR FR.kp bR (aD (pv 3) (aD (pv 2) aH))⟩ .nil rfl))⟩ .nil rfl)))))⟩,?_⟩
  refine fV ⟨_,⟨cj (pv 2)⟩,?_⟩;refine⟨(by show 2<=sizeLine;decide),λg N=>?_⟩;have G:=bF (o:=.lst [.int 0,.int 1]) N;have JE:=y.same G;have kX:upd H g (.lst [.int 0,.int 1]) g=some (.lst (vN (dn rows L 0))):=by
   have e0:dn rows L 0=[0,1]:=by
    show[Tr.name L (Qf.T rows 0),Tr.name L (Qf.T rows 1)]=_;rw[iP,iH];rfl
   rw[e0,aX];rfl
  have P_:bq (upd H g (.lst [.int 0,.int 1])) S rows:=I.mono G.cC;have Jb:g≠M:=by
   obtain⟨_,⟨ks,hk,_⟩,_,_⟩:=id y;exact(ck hk N).symm
  generalize upd H g (.lst [.int 0,.int 1])=H1 at G JE kX P_ ⊢;obtain⟨bs,vY,wO,jA⟩:=id I;have NB:g≠R:=(ck y.dc N).symm;refine⟨_,rfl,S,rfl,⟨_,aQ.of (G _ _ vY)⟩,CD (K:=K) (a:=S) (xs:=bs.map V.ref) (λi W d=>bf C d p M R (cR rows L i)/\d g=some (.lst (vN (dn rows L i)))/\dB M R H d/\∃v,W=[some (.ref p),some (.ref S),some (.ref g),v]) ?_ ?_ ?_ ?_⟩
  ·exact⟨JE,kX,dB.of G,none,rfl⟩
  ·rintro i W d _ ⟨_,_,u,_⟩;exact aQ.of (y.tup u vY)
  ·rintro i x W d U ⟨O,r,u,v,rfl⟩;rw[Zf]at U;obtain⟨b,hb,rfl⟩:=Zp.mp U;have hi:i<rows.length:=by rw[<- wO];exact(cx hb).1
   obtain⟨l,m,k,j,er⟩:=Az (ok i _ (Zd hi)).1;have OF:rows[i]?=some [l,m,k,j]:=by rw[Zd hi,er]
   have k8:=y.tup u (jA i b _ hb OF);have j8:=(ok i _ OF).2;obtain⟨⟨dx,kW⟩,_,_,hO⟩:=id O;have X:=λx (U:x∈[l,m,k,j])=>tJ (rows:=rows) (L:=L) i x (j8 x U);obtain⟨e2,kQ,Pe⟩:=CG rows L i;have Qg:(cR rows L i).length<=L.length+i:=by rw[kQ,Zk];lia
   have D:=SS ok np OF;have Et:=xg2 ok np y.od hi;have Jo:(dn rows L i).length=i+2:=by unfold dn;rw[Ze,Z5]
   have hv:∀q∈[l,m,k,j],(dn rows L i)[q]?=some (Tr.name (cR rows L i) (Qf.T rows q)):=λq hq=>by
    unfold dn;rw[Zf,Y5 (j8 q hq)]
    rfl
   have Po:ins (ky (Qf.T rows l) (Qf.T rows m) (Qf.T rows k) (Qf.T rows j)) (cR rows L i)=cR rows L (i+1):=by rw[D];rfl
   have O4:Tr.name (cR rows L (i+1)) (ky (Qf.T rows l) (Qf.T rows m) (Qf.T rows k) (Qf.T rows j))=Tr.name (cR rows L (i+1)) (Qf.T rows (i+2)):=by rw[D]
   rw[Et];refine⟨_,rfl,.inl ⟨rfl,_,bY.of r⟩,_,rfl,p,dx,_,rfl,kW,SR _ _,_,rfl,_,rfl,b,g,[l,m,k,j],_,λx=>Tr.name (cR rows L i) (Qf.T rows x),rfl,k8,rfl,r,hv,λH3 t s3 ht=>?_⟩;refine⟨p,M,R,t,_,_,_,_,_,rfl,O.same s3,ht,X l 'b',X m 'b',X k 'b',X j 'b',by lia,λH4 B4 JD=>?_⟩;rw[Po]at JD ⊢;rw[O4];have J:=B4 _ _ (s3 _ _ r) Jb NB;refine⟨g,_,_,rfl,rfl,J,by rw[dM,Jo];exact ml 'a',?_⟩;refine⟨JD.put J Jb,?_,λc o e n1 n2=>?_,_,rfl⟩
   ·rw[aX];unfold vN;rw[ZW]
    rfl
   ·rw[bo (ck e N)];exact B4 _ _ (s3 _ _ (u _ _ e n1 n2)) n1 n2
  ·rintro W d ⟨O,r,u,v,rfl⟩;rw[Ze,wO]at O r;exact⟨_,rfl,q d g N u O r⟩
end
abbrev nRR:List aq:=["row","rows"]
theorem xQ0:nRR.Nodup:=by decide +kernel
section
variable{mg:aq->Option aa}{base:ao}
theorem xK8:aE ["number"] ["number"] (cg Dp):=cZ
def Ky:Sp:=λa H Q _=>∃q:Nat,a=[.int (q:Nat)]/\Q (.int (ex q:Nat)) H
theorem Sj{f:ae}{d:ai}(F:aP K "exchanged" "exchanged" Dp f d)(T:lh mg):aB P w K mg base aJ 1 f d ["number"] Ky:=by
 obtain⟨p,i⟩:=T.first;obtain⟨k,g⟩:=T.full;refine F.ok xK8 (λj H Q E h=>?_) (λm A b s H j Q E l h=>?_)
 ·obtain⟨x,rfl,_⟩:=h
  rfl
 ·obtain⟨x,rfl,q⟩:=h;refine⟨_,dG (c9 (dI mi (pv 0) (cX (v:=.int 2) 'd' i ⟨_,rfl⟩) (cP _)) (cm (cj (cy pQ (cX (v:=.int 1) 'd' g ⟨_,rfl⟩) (pv 0)))) c_) (cm (cj (pv 0))),?_⟩;refine⟨_,rfl,_,_,rfl,rfl,_,rfl,?_⟩;refine dD (λc=>?_) (λc=>?_)
  ·have a:x<2:=by have:=ZI c;lia
   refine⟨_,rfl,_,_,rfl,rfl,?_⟩;have e:ex x=1-x:=Zr a;rw[e]at q;show Q (V.int (1-(x:Int))) H;rw[show(1:Int)-(x:Int)=((1-x:Nat):Int) by lia];exact q
  ·have a:¬x<2:=λz=>c (Zq 'a');have e:ex x=x:=Zi a;rw[e]at q;exact⟨_,rfl,q⟩
theorem og:aE ["rows"] ["rows"] (cg AY):=cZ
def LY:Sp:=λc H Q _=>∃(p:ae)(rows:List Row),c=[.ref p]/\bq H p rows/\cz rows/\rows.length<=1190900/\∀a b,aC H a->bq a b (gT rows)->Q (.ref b) a
theorem xq4{f M:ae}{fd L:ai}(F:aP K "exchanged_rows" "exchanged_rows" AY f fd)(B:d_ mg)(T:lh mg)
  (hX:mg "exchanged"=some (.ref M)) (Y:aP K "exchanged" "exchanged" Dp M L) (bX:Binds K L ["number"] []):aB P w K mg base aJ 2 f fd ["rows"] LY:=by
 have GX:aB P w K mg base aJ 1 M L ["number"] Ky:=Sj Y T;refine F.ok og (λvs H Q E h=>?_) (λbp A N s H vs Q E hr h=>?_)
 ·obtain⟨p,rows,rfl,_⟩:=h
  rfl
 ·obtain⟨p,rows,rfl,jG,ok,hl,q⟩:=h;obtain⟨bs,hp,j7,jA⟩:=id jG;have U:(bs.map V.ref).length=rows.length:=by rw[Ze];exact j7
  refine⟨_,cm (cj (hZ (l6 K rfl) 'd' B.tuple ZE (aD (oB ["rows"] (cg AY) rfl rfl rfl og.nd (vt K rfl (pv 0))
   (λcl C fp aG aK=>hZ (l6 K rfl) 'd' B.tuple ZE (aD (oB nRR _ rfl rfl rfl xQ0 (vt K rfl (pv 0))
    (λcl2 C2 fp2 s2 H2=>bZ GX hr hX Y.kp bX (aD (pv 0) aH)) (hfr:=by rfl)) aH))) aH))),?_⟩
  refine⟨_,rfl,p,rfl,⟨_,aQ.of hp⟩,λD hD=>oG hD (λi z k=>∃b r,z=.ref b/\rows[i]?=some r/\k b=some (.tup (vN (r.map ex)))) (pA (K:=K) hp) (by rw[U];exact ml 'a') ?_ ?_ ?_⟩
  ·rintro i z k H2 _ tk ⟨b,r,rfl,h1,h2⟩;exact⟨b,r,rfl,h1,tk _ _ h2⟩
  ·intro j x H3 hj c O Q' hq;have yL:j<rows.length:=by rw[<- U];exact hj
   rw[Zf]at c;obtain⟨b,hb,rfl⟩:=Zp.mp c;have G:rows[j]?=some rows[j]:=by simp[yL]
   have S:=O _ _ (jA j b _ hb G);have rk:=ok j _ G;generalize rows[j]=r at G S rk;refine⟨_,rfl,b,rfl,⟨_,aQ.of S⟩,λD2 kJ=>oG kJ (λi z _=>∃m:Nat,r[i]?=some m/\z=.int (ex m:Nat)) (pA (K:=K) S) (by rw[dM,rk.1];decide) (λ_ _ _ _ _ _ h=>h) ?_ ?_⟩
   ·intro i x H4 Z c X Q2 yK;obtain⟨m,R,rfl⟩:=mZ c;exact⟨_,rfl,m,rfl,yK _ _ (aC.refl _) ⟨m,R,rfl⟩⟩
   ·intro d H4 X kY v J;have ey:d=vN (r.map ex):=by
     refine pz (by rw[v,dM,dM,Ze]) λi x c=>?_;obtain⟨m,R,rfl⟩:=J i x c;exact tQ (by rw[Zf,R];rfl)
    refine⟨D2,d,rfl,.inl ⟨bY.of kY,λl I=>hq _ _ (X.trans (bF I)) ⟨l,r,rfl,G,?_⟩⟩⟩;rw[aX,ey]
  ·intro d H3 O jZ v J;refine⟨D,d,rfl,.inl ⟨bY.of jZ,λl I=>q _ l (O.trans (bF I)) ?_⟩⟩;have u:∀(zs:List V)(k:Hp),(∀(i:Nat) z,zs[i]?=some z->∃b r,z=.ref b/\rows[i]?=some r/\k b=some (.tup (vN (r.map ex))))->∃a:List ae,zs=a.map V.ref:=λzs k hz=>by
    have:∀zs:List V,(∀z∈zs,∃b:ae,z=.ref b)->∃a:List ae,zs=a.map V.ref:=λzs=>by
     induction zs with
     |nil=>exact λ_=>⟨[],rfl⟩
     |cons z zs ih=>
      intro h;obtain⟨b,rfl⟩:=h z Zw;obtain⟨a,rfl⟩:=ih λy hy=>h y (Zn _ hy);exact⟨b::a,rfl⟩
    refine this zs λz W=>?_;obtain⟨i,Z,e⟩:=ZM.mp W;obtain⟨b,_,g,_⟩:=hz i z (by simp[Z,e]);exact⟨b,g⟩
   obtain⟨a,rfl⟩:=u d H3 J;have vK:a.length=rows.length:=by rw[Ze]at v;rw[v,U]
   refine⟨a,aX,by rw[vK];simp[gT],λi b r e1 g=>?_⟩;obtain⟨b',r',e3,e4,e5⟩:=J i (.ref b) (by rw[Zf,e1];rfl);cases e3;have:r=r'.map ex:=by
    unfold gT at g;rw[Zf,e4]at g;exact(Zu g).symm
   rw[this];exact dZ e5 I
end
end Pr
namespace Qf
open Tr
def wy(L:List Tr)(rows:List Row)(f:Tr->Tr):List Nat:=(List.range (rows.length+2)).map λx=>name L (f (T rows x))
theorem BL{L:List Tr}{rows:List Row}{f:Tr->Tr}{x:Nat}(h:x<rows.length+2):(wy L rows f)[x]?=some (name L (f (T rows x))):=by
 unfold wy;rw[Zf,Y5 h]
 rfl
theorem xK9(L:List Tr)(rows:List Row)(f:Tr->Tr):(wy L rows f).length=rows.length+2:=by unfold wy;rw[Ze,Z5]
theorem Kx{L s:List Tr}{rows:List Row}{f:Tr->Tr}(h:Ord L)(b:∀x,x<rows.length+2->In L (f (T rows x))):wy (L++s) rows f=wy L rows f:=by
 unfold wy;exact Yx λx a=>dw (b x (ZX.mp a)) h
theorem xh2{rows:List Row}(ok:cz rows)(g:∀r∈rows,¬fJ r){L:List Tr}(h:Ord L)(w:o8 L):
  let c:=cR (gT rows) L rows.length
  let b:=cR rows c rows.length
  (∃s,b=L++s/\s.length<=2*rows.length)/\o8 b/\(∀x,x<rows.length+2->In b (T rows x)/\In b (neg (T rows x)))/\[1,0]++(dn (gT rows) L rows.length).drop 2=wy b rows neg:=by
 intro c b;have j:=Sm rows;have m:=Iq ok;have d:=KA g;have k:Ord c:=CF m d h _ (by rw[j];exact Zg _);have B:Ord b:=CF ok g k _ (Zg _);obtain⟨l,y,C⟩:=CG (gT rows) L rows.length;obtain⟨q,u,D⟩:=CG rows c rows.length;have v:c=L++l:=y;have f:b=c++q:=u;have p:∀x,2<=x->x<rows.length+2->T (gT rows) x=neg (T rows x):=λx h2 a=>by
  have:=xP9 ok x a
  rwa [Sl 'a']at this
 have e:∀x,x<rows.length+2->In c (neg (T rows x)):=λx a=>by
  by_cases z:2<=x
  ·rw[<- p x z a];exact tJ _ x a
  ·have:x=0\/x=1:=by lia
   rcases this with rfl|rfl
   ·rw[iP];exact .inr (.inl rfl)
   ·rw[iH];exact .inl rfl
 refine⟨⟨l++q,by rw[f,v,Z6],by rw[Zk];lia⟩,Ms ok g (Ms m d w _ (by rw[j];exact Zg _)) _ (Zg _),λx a=>⟨tJ _ x a,by rw[f];exact(e x a).app⟩,?_⟩;rw[f,Kx k e];refine XV λi=>?_;by_cases A:i<2
 ·match i,A with
  |0,_=>rw[BL 'a',iP];rfl
  |1,_=>rw[BL 'a',iH];rfl
 ·rw[Zs (by show 2<=i;lia),Ws,show 2+(i - [1,0].length)=i by show 2+(i-2)=i;lia];by_cases a:i<rows.length+2
  ·rw[BL a];unfold dn;rw[Zf,Y5 a];show some (name c (T (gT rows) i))=_;rw[p i 'a' a]
  ·rw[Yc (by unfold dn;rw[Ze,Z5];lia),Yc (by rw[xK9];lia)]
theorem xh3{L:List Tr}{e:Nat}(h:e<2):name L (sG e)=e/\In L (sG e):=by
 match e,h with
 |0,_=>exact⟨rfl,.inl rfl⟩
 |1,_=>exact⟨rfl,.inr (.inl rfl)⟩
end Qf
namespace Pr
open PySem L2 Qf
structure cb(H:Hp)(t g1 g2:ae)(rows:List Row)(L:List Tr):Prop where
 tp:H t=some (.tup [.ref g1,.ref g2])
 a:H g1=some (.lst (vN (wy L rows id)))
 b:H g2=some (.lst (vN (wy L rows neg)))
 gp:∀x,x<rows.length+2->Tr.In L (T rows x)/\Tr.In L (neg (T rows x))
theorem cb.same{H a:Hp}{t b c:ae}{rows:List Row}{L:List Tr}(h:cb H t b c rows L)(s:aC H a):cb a t b c rows L:=⟨s _ _ h.tp,s _ _ h.a,s _ _ h.b,h.gp⟩
theorem cb.ext{H:Hp}{t b c:ae}{rows:List Row}{L:List Tr}(h:cb H t b c rows L)(o:Tr.Ord L)(s:List Tr):cb H t b c rows (L++s):=
 ⟨h.tp,by rw[Kx o λx a=>(h.gp x a).1];exact h.a,by rw[Kx o λx a=>(h.gp x a).2];exact h.b,λx a=>⟨(h.gp x a).1.app,(h.gp x a).2.app⟩⟩
section
variable{mg:aq->Option aa}{base:ao}
theorem RF(k d:ae):(sH k d).lookup ("numbers_for":aq)=none:=TN k d (by decide +kernel) (by decide +kernel)
abbrev nBW:List aq:=["book","rows","left"]
theorem Co:aE nBW ["book","rows"] (cg GY):=cZ
def xU(C:ae):Sp:=λh H Q _=>∃(p c d f:ae)(L:List Tr)(rows:List Row),h=[.ref p,.ref f]/\bf C H p c d L/\bq H f rows/\cz rows/\(∀r∈rows,¬fJ r)/\o8 L/\L.length+2*rows.length<=1190980/\rows.length<=1190900 /\
 ∀(a:Hp)(t e g:ae)(b:List Tr),dB c d H a->bf C a p c d b->cb a t e g rows b->H t=none->H e=none->H g=none->(∃s,b=L++s/\s.length<=2*rows.length)->o8 b->Q (.ref t) a
theorem xQ1{f fN O fE C:ae}{fd gE I fdE:ai}(F:aP K "both_ways" "both_ways" GY f fd)(B:d_ mg)(Tc:lh mg)(jT:∃t,mg "EMPTY"=some (.int 0 t))(TB:fz K mg C)
  (MN:Meth K C "numbers_for" fN) (bN:Binds K gE ["self","rows"] []) (GN:aB P w K mg base aJ 4 fN gE ["self","rows"] (Kz C))
  (hX:mg "exchanged_rows"=some (.ref O)) (FX:aP K "exchanged_rows" "exchanged_rows" AY O I) (bX:Binds K I ["rows"] []) (GX:aB P w K mg base aJ 2 O I ["rows"] LY):aB P w K mg base aJ 5 f fd ["book","rows"] (xU C):=by
 obtain⟨tf,kA⟩:=Tc.first;obtain⟨tu,wS⟩:=Tc.full;obtain⟨te,wK⟩:=jT;refine F.ok Co (λvs H Q E h=>?_) (λbp A R s H vs Q E Y h=>?_)
 ·obtain⟨p,c,d,G,L,rows,rfl,_⟩:=h
  rfl
 ·obtain⟨p,c,d,G,L,rows,rfl,u,hR,ok,r,rd,hl,Jp,q⟩:=h;have kB:aS 2 _:=Y.mono 'c';refine aO ⟨_,⟨eI 2 Co.nd (AI (pv 0) TB.cl MN GN Y bN .nil tU (cw.go (.cons ⟨bZ GX kB hX FX.kp bX (aD (pv 1) aH)⟩ .nil rfl)))⟩,?_⟩;refine fV ⟨_,⟨cj (kq (cw.go (.cons ⟨AI (pv 0) TB.cl MN GN Y bN .nil tU (aD (pv 1) aH)⟩ (.cons ⟨cy C9 (iI (aD (cX (v:=.int 1) 'd' wS ⟨_,rfl⟩) (aD (cX (v:=.int 0) 'd' wK ⟨_,rfl⟩) aH))) (tO Mo (pv 2) (nF (cX (v:=.int 2) 'd' kA ⟨_,rfl⟩)) pS)⟩ .nil rfl) rfl)))⟩,?_⟩;obtain⟨⟨dx,kW⟩,_,_,hO⟩:=id u;have X:=Sm rows;obtain⟨⟨s2,e2,l2⟩,Lz,Of,U⟩:=xh2 ok r hO rd;have gf:Tr.Ord (cR (gT rows) L rows.length):=CF (Iq ok) (KA r) hO _ (by rw[X];exact Zg _);obtain⟨s1',Fx,l1'⟩:=CG (gT rows) L rows.length;have vO:(cR (gT rows) L rows.length).length<=L.length+rows.length:=by rw[Fx,Zk];lia
  refine⟨_,rfl,p,dx,_,rfl,kW,RF _ _,_,rfl,G,rows,rfl,hR,ok,Jp,λH1 rp1 D kI=>⟨p,c,d,rp1,L,gT rows,rfl,u.same D,kI,Iq ok,KA r,by rw[X];lia,λH2 g y B2 Z kP=>?_⟩⟩;rw[X]at Z kP;have JE:=u.same D;have N:dB c d H H2:=(dB.of D).trans B2;have jX:bq H2 G rows:=u.rows N hR;obtain⟨⟨xo,zC⟩,⟨bs2,vS,_⟩,jB,_⟩:=id Z;refine⟨_,rfl,p,xo,_,rfl,zC,RF _ _,_,rfl,p,c,d,G,_,rows,rfl,Z,jX,ok,r,by lia,λH3 i j B3 m Pz=>?_⟩;obtain⟨_,⟨p5,wI,_⟩,vJ,_⟩:=id JE;have Jb:g≠c:=(ck wI y).symm;have NB:g≠d:=(ck vJ y).symm;have Jt:=B3 _ _ kP Jb NB;have Jr:H g=none:=by
   cases e:H g with
   |none=>rfl
   |some o=>rw[D _ _ e]at y;cases y
  have Py:H i=none:=by
   cases e:H i with
   |none=>rfl
   |some o=>
    have J:i≠c:=λz=>by rw[z,vS]at j;cases j
    have M:i≠d:=λz=>by rw[z,jB]at j;cases j
    rw[N _ _ e J M]at j;cases j
  have l:=N.trans B3;obtain⟨_,⟨bs3,wZ,_⟩,jZ,_⟩:=id m;have a:∀{x:ae}{T:Hp},aC H3 T->T x=none->H x=none:=λ{x T} s e=>by
   cases e0:H x with
   |none=>rfl
   |some o=>
    have b:H3 x=none:=by
     cases e4:H3 x with
     |none=>rfl
     |some o'=>rw[s _ _ e4]at e;cases e
    have J:x≠c:=λz=>by rw[z,wZ]at b;cases b
    have M:x≠d:=λz=>by rw[z,jZ]at b;cases b
    rw[l _ _ e0 J M]at b;cases b
  refine⟨(by show 2<=sizeLine;decide),λl1 vO=>⟨_,rfl,_,rfl,g,_,rfl,bY.of (dZ Jt vO),λl3 k=>?_⟩⟩;have j7:(vN (dn (gT rows) L rows.length)).length=rows.length+2:=by rw[dM];unfold dn;rw[Ze,Z5]
  have zW:dk (vN (dn (gT rows) L rows.length)) (some 2) none=vN ((dn (gT rows) L rows.length).drop 2):=by
   rw[show(2:Int)=((2:Nat):Int)from rfl,TV 'a'];unfold vN;rw[List.map_drop]
  rw[zW];refine⟨l1,l3,_,_,rfl,rfl,dZ aX k,aX,?_,λg2 E2=>⟨(by show 2<=sizeLine;decide),λt S=>?_⟩⟩
  ·rw[dM,Z3];show 2+_<=sizeLine;have:(dn (gT rows) L rows.length).length=rows.length+2:=by unfold dn;rw[Ze,Z5]
   exact Ys (ml 'a')
  have b:[V.int 1,V.int 0]++vN ((dn (gT rows) L rows.length).drop 2)=vN (wy (cR rows (cR (gT rows) L rows.length) rows.length) rows neg):=by
   rw[<- U];unfold vN;rw[ZW]
   rfl
  have U1:=bF (o:=.lst [V.int 1,V.int 0]) vO;have U2:=U1.trans (bF (o:=.lst (vN ((dn (gT rows) L rows.length).drop 2))) k);have U3:=U2.trans (bF (o:=.lst ([V.int 1,V.int 0]++vN ((dn (gT rows) L rows.length).drop 2))) E2);have W:=U3.trans (bF (o:=.tup [V.ref i,V.ref g2]) S);refine q _ t i g2 _ (l.trans (dB.of W)) (m.same W) ⟨aX,W _ _ Pz,?_,Of⟩ (a U3 S) Py (a U2 E2) ⟨s2,e2,l2⟩ Lz;rw[<- b];exact dZ aX S
abbrev DP:List aq:=["ways","number","outcomes"]
theorem Lq:aE DP DP (cg IJ):=cZ
def Cg:Sp:=λb H Q _=>∃(t o a c:ae)(x e f:Nat)(L:List Tr)(rows:List Row),b=[.ref t,.int (x:Nat),.ref o]/\cb H t a c rows L/\H o=some (.tup [.int (e:Nat),.int (f:Nat)])/\e<2/\f<2/\x<rows.length+2 /\
 (Tr.In L (aZ e f (T rows x))->Q (.int (Tr.name L (aZ e f (T rows x)):Nat)) H)
theorem xQ2{f:ae}{p:ai}(F:aP K "number_beside_plain" "number_beside_plain" IJ f p):aB P w K mg base aJ 1 f p DP Cg:=by
 refine F.ok Lq (λB H Q E h=>?_) (λG A j s H B Q E C h=>?_)
 ·obtain⟨t,o,g,l,x,e,f,L,rows,rfl,_⟩:=h
  rfl
 ·obtain⟨t,o,g,l,x,e,f,L,rows,rfl,b,a,m,D,i,q⟩:=h;refine aO ⟨_,⟨c9 (dI mY (cO gb (pv 2) aR) (cO gb (pv 2) aR) (cP _)) (cm (cj (cO gb (pv 2) aR))) c_⟩,?_⟩;refine fV ⟨_,⟨cj (cO jv (cO gb (pv 0) (cO gb (pv 2) aR)) (pv 1))⟩,?_⟩;refine⟨_,rfl,o,_,0,.int (e:Nat),rfl,rfl,aQ.of a,rfl,_,rfl,o,_,1,.int (f:Nat),rfl,rfl,aQ.of a,rfl,rfl,_,rfl,?_⟩;refine dD (λk=>?_) (λk=>?_)
  ·have d:e=f:=by
    have:=ZI k;injection this with this
    lia
   have c:aZ e f (T rows x)=sG e:=by unfold aZ;rw[Zr d]
   obtain⟨r,y⟩:=xh3 (L:=L) m;rw[c,r]at q;exact⟨_,rfl,o,_,0,.int (e:Nat),rfl,rfl,aQ.of a,rfl,q y⟩
  ·have d:¬e=f:=λz=>k (Zq (by rw[z]));obtain⟨u,v⟩:=b.gp x i
   match e,m with
   |0,_=>
    have c:aZ 0 f (T rows x)=T rows x:=by unfold aZ;rw[Zi d,Zr rfl]
    rw[c]at q;exact⟨_,rfl,_,rfl,o,_,0,.int (0:Nat),rfl,rfl,aQ.of a,rfl,t,_,0,.ref g,rfl,rfl,aQ.of b.tp,rfl,_,rfl,g,_,(x:Int),_,rfl,rfl,bY.of b.a,kr (tQ (BL i)),q u⟩
   |1,_=>
    have c:aZ 1 f (T rows x)=neg (T rows x):=by unfold aZ;rw[Zi d,Zi 'c']
    rw[c]at q;exact⟨_,rfl,_,rfl,o,_,0,.int (1:Nat),rfl,rfl,aQ.of a,rfl,t,_,1,.ref l,rfl,rfl,aQ.of b.tp,rfl,_,rfl,l,_,(x:Int),_,rfl,rfl,bY.of b.b,kr (tQ (BL i)),q v⟩
end
def iW(b c a:ae):List (aq×V):=aY "outcomes" (.ref a) (aY "other_rows" (.ref c) (aY "rows" (.ref b) []))
def ie(c d a b:ae):List (aq×V):=aY "book" (.ref b) (iW c d a)
def fq(d e c b a:ae):List (aq×V):=aY "ways" (.ref a) (ie d e c b)
def mh(f e c b a d g:ae):List (aq×V):=aY "known" (.ref g) (aY "other_ways" (.ref d) (fq f e c b a))
section
variable(rp op oc b w1 w2 g:ae)
theorem TM:(ie rp op oc b).lookup ("book":aq)=some (.ref b):=by
 unfold ie;rw[dN,Zr rfl]
theorem TL:(fq rp op oc b w1).lookup ("book":aq)=some (.ref b):=by
 unfold fq;rw[dN,Zi (by decide +kernel)];exact TM rp op oc b
theorem Si:(mh rp op oc b w1 w2 g).lookup ("book":aq)=some (.ref b):=by
 unfold mh;rw[dN,Zi (by decide +kernel),dN,Zi (by decide +kernel)];exact TL rp op oc b w1
theorem xD4:(mh rp op oc b w1 w2 g).lookup ("rows":aq)=some (.ref rp):=by
 unfold mh fq ie iW;rw[dN,Zi (by decide +kernel),dN,Zi (by decide +kernel),dN,Zi (by decide +kernel),dN,Zi (by decide +kernel),dN,Zi (by decide +kernel),dN,Zi (by decide +kernel),dN,Zr rfl]
theorem xq5:(mh rp op oc b w1 w2 g).lookup ("other_rows":aq)=some (.ref op):=by
 unfold mh fq ie iW;rw[dN,Zi (by decide +kernel),dN,Zi (by decide +kernel),dN,Zi (by decide +kernel),dN,Zi (by decide +kernel),dN,Zi (by decide +kernel),dN,Zr rfl]
theorem C3:(mh rp op oc b w1 w2 g).lookup ("outcomes":aq)=some (.ref oc):=by
 unfold mh fq ie iW;rw[dN,Zi (by decide +kernel),dN,Zi (by decide +kernel),dN,Zi (by decide +kernel),dN,Zi (by decide +kernel),dN,Zr rfl]
theorem xD5:(mh rp op oc b w1 w2 g).lookup ("ways":aq)=some (.ref w1):=by
 unfold mh fq;rw[dN,Zi (by decide +kernel),dN,Zi (by decide +kernel),dN,Zr rfl]
theorem Hm:(mh rp op oc b w1 w2 g).lookup ("other_ways":aq)=some (.ref w2):=by
 unfold mh;rw[dN,Zi (by decide +kernel),dN,Zr rfl]
theorem Hl:(mh rp op oc b w1 w2 g).lookup ("known":aq)=some (.ref g):=by
 unfold mh;rw[dN,Zr rfl]
theorem Sh:(mh rp op oc b w1 w2 g).lookup ("number_for_pair":aq)=none:=by
 unfold mh fq ie iW;rw[dN,Zi (by decide +kernel),dN,Zi (by decide +kernel),dN,Zi (by decide +kernel),dN,Zi (by decide +kernel),dN,Zi (by decide +kernel),dN,Zi (by decide +kernel),dN,Zi (by decide +kernel)]
 all_goals rfl
end
structure uE(K:PySem.W.Frag)(mg:aq->Option aa)(C:ae):Prop where
 cl:pL K C
 nR:a_ K C "rows"
 nO:a_ K C "other_rows"
 nC:a_ K C "outcomes"
 nB:a_ K C "book"
 nW:a_ K C "ways"
 nX:a_ K C "other_ways"
 nN:a_ K C "known"
 NL:mg "Deed"=some (.ref C)
structure dE(C CB:ae)(rows j6:List Row)(H:Hp)(p rp op oc b kk dd w1 w2 g:ae)(G:Nat->ae)(L:List Tr)(kv:List (List Key×V)):Prop where
 ob:∃dx,H p=some (.ins C dx (mh rp op oc b w1 w2 g))
 bk:bf CB H b kk dd L
 wa:cb H w1 (G 0) (G 1) rows L
 wb:cb H w2 (G 2) (G 3) j6 L
 gk:∀i,G i≠kk
 kn:H g=some (.dT kv)
 ne:g≠dd
 rd:o8 L
 r1:bq H rp rows
 r2:bq H op j6
theorem cb.keep{C:ae}{H f:Hp}{p k d t a b:ae}{L:List Tr}{rows:List Row}{i:List Tr}(h:cb H t a b rows L)(e:bf C H p k d i)(B:dB k d H f)(j:a≠k)(g:b≠k):cb f t a b rows L:=by
 have c:=e.dc;exact⟨e.tup B h.tp,B _ _ h.a j (λz=>by have:=h.a;rw[z,c]at this;cases this),B _ _ h.b g (λz=>by have:=h.b;rw[z,c]at this;cases this),h.gp⟩
theorem bf.jl{C f:ae}{H:Hp}{p k d b a:ae}{L:List Tr}{g j:List (aq×V)}(h:bf C H p k d L)(y:p≠b)(w:H b=some (.ins f a g)):bf C (upd H b (.ins f a j)) p k d L:=by
 obtain⟨⟨B,u⟩,⟨bs,q,D,v⟩,l,s⟩:=h;have k1:∀{x:ae}{o:HO},H x=some o->(∀g,o≠.ins f a g)->upd H b (.ins f a j) x=some o:=λ{x o} e n=>by
  rw[bo (λz=>by rw[z,w]at e;exact n g (Zu e).symm)];exact e
 exact⟨⟨B,by rw[bo y];exact u⟩,⟨bs,k1 q (λ_ z=>by cases z),D,λi c r A m=>k1 (v i c r A m) (λ_ z=>by cases z)⟩,k1 l (λ_ z=>by cases z),s⟩
theorem cb.jl{a:ae}{H:Hp}{t f i d b:ae}{L:List Tr}{rows:List Row}{c g:List (aq×V)}(h:cb H t f i rows L)(j:H d=some (.ins a b c)):cb (upd H d (.ins a b g)) t f i rows L:=by
 have k1:∀{x:ae}{o:HO},H x=some o->(∀c,o≠.ins a b c)->upd H d (.ins a b g) x=some o:=λ{x o} e n=>by
  rw[bo (λz=>by rw[z,j]at e;exact n c (Zu e).symm)];exact e
 exact⟨k1 h.tp (λ_ z=>by cases z),k1 h.a (λ_ z=>by cases z),k1 h.b (λ_ z=>by cases z),h.gp⟩
theorem q33:o8 []:=λt a=>nomatch a
section
variable{mg:aq->Option aa}{base:ao}
abbrev DQ:List aq:=["self","rows","other_rows","outcomes"]
theorem Ls:aE DQ DQ (cg Mf):=cZ
def xT(C k:ae):Sp:=λm H Q _=>∃(p q e d h:ae)(rows a:List Row),m=[.ref p,.ref e,.ref d,.ref h]/\H p=some (.ins C q [])/\bq H e rows/\bq H d a/\cz rows/\cz a/\(∀r∈rows,¬fJ r)/\(∀r∈a,¬fJ r)/\2*rows.length+2*a.length<=1190900 /\
 ∀(b f i j l g:ae)(G:Nat->ae)(L:List Tr)(c:Hp),H b=none->H f=none->H i=none->H g=none->dE C k rows a c p e d h b f i j l g G L []->L.length<=2*rows.length+2*a.length->bJ p H c->Q .cA c
theorem xQ3{f fB fW C r:ae}{fd lR cU:ai}(F:aP K "__init__" "Deed.__init__" Mf f fd)(T:uE K mg C)(TB:fz K mg r)(MB:Mk K r fB)(FB:aP K "__init__" "Book.__init__" IK fB lR)(bB:Binds K lR ["self"] [])
  (hW:mg "both_ways"=some (.ref fW)) (FW:aP K "both_ways" "both_ways" GY fW cU) (bW:Binds K cU ["book","rows"] []) (GW:aB P w K mg base aJ 5 fW cU ["book","rows"] (xU r)):aB P w K mg base aJ 6 f fd DQ (xT C r):=by
 have GB:aB P w K mg base aJ 1 fB lR ["self"] (SU r):=xK4 FB TB;refine F.ok Ls (λvs H Q E h=>?_) (λbp A outer s H vs Q E hr h=>?_)
 ·obtain⟨p,a,c,d,j,rows,j6,rfl,_⟩:=h
  rfl
 ·obtain⟨p,a,c,d,j,rows,j6,rfl,hp,kI,jX,gf,mq,DH,za,hl,q⟩:=h;have kB:aS 2 _:=hr.mono 'c';have yI:aS 5 _:=hr.mono 'c';refine aO ⟨_,⟨tI (pv 0) (pv 1) rfl⟩,?_⟩;refine aO ⟨_,⟨tI (pv 0) (pv 2) rfl⟩,?_⟩;refine aO ⟨_,⟨tI (pv 0) (pv 3) rfl⟩,?_⟩;refine aO ⟨_,⟨tI (pv 0) (xj9 MB GB kB 'd' TB.NL bB .nil tU) rfl⟩,?_⟩;refine aO ⟨_,⟨tI (pv 0) (df.go ⟨bZ GW yI hW FW.kp bW (cw.go (.cons ⟨ju (pv 0) rfl⟩ (.cons ⟨pv 1⟩ .nil rfl) rfl))⟩) rfl⟩,?_⟩;refine aO ⟨_,⟨tI (pv 0) (df.go ⟨bZ GW yI hW FW.kp bW (cw.go (.cons ⟨ju (pv 0) rfl⟩ (.cons ⟨pv 2⟩ .nil rfl) rfl))⟩) rfl⟩,?_⟩;refine fV ⟨_,⟨tI (pv 0) MQ rfl⟩,?_⟩;refine⟨_,rfl,_,rfl,p,C,a,[],rfl,hp,T.cl,T.nR,(by show 0<1000;decide),?_⟩;refine⟨_,rfl,_,rfl,p,C,a,_,rfl,aX,T.cl,T.nO,(by show 1<1000;decide),?_⟩;refine⟨_,rfl,_,rfl,p,C,a,_,rfl,aX,T.cl,T.nC,(by show 2<1000;decide),?_⟩;have J:∀{m:Hp}{o:HO},bJ p m (upd m p o):=λ{m o} x y e n=>by rw[bo n];exact e
  have un:∀{m:Hp}{o o':HO}{x:ae},m p=some o'->upd m p o x=none->m x=none:=λ{m o o' x} h e=>by
   have n:x≠p:=λz=>by rw[z,aX]at e;cases e
   rwa [bo n]at e
  have jQ:(upd (upd (upd H p (.ins C a (aY "rows" (.ref c) []))) p (.ins C a (aY "other_rows" (.ref d) (aY "rows" (.ref c) [])))) p (.ins C a (aY "outcomes" (.ref j) (aY "other_rows" (.ref d) (aY "rows" (.ref c) []))))) p=some (.ins C a (iW c d j)):=aX;have B3:bJ p H (upd (upd (upd H p (.ins C a (aY "rows" (.ref c) []))) p (.ins C a (aY "other_rows" (.ref d) (aY "rows" (.ref c) [])))) p (.ins C a (aY "outcomes" (.ref j) (aY "other_rows" (.ref d) (aY "rows" (.ref c) []))))):=(J.trans J).trans J;have N3:∀x,(upd (upd (upd H p (.ins C a (aY "rows" (.ref c) []))) p (.ins C a (aY "other_rows" (.ref d) (aY "rows" (.ref c) [])))) p (.ins C a (aY "outcomes" (.ref j) (aY "other_rows" (.ref d) (aY "rows" (.ref c) []))))) x=none->H x=none:=λx e=>un hp (un aX (un aX e));generalize upd (upd (upd H p (.ins C a (aY "rows" (.ref c) []))) p (.ins C a (aY "other_rows" (.ref d) (aY "rows" (.ref c) [])))) p (.ins C a (aY "outcomes" (.ref j) (aY "other_rows" (.ref d) (aY "rows" (.ref c) []))))=H3 at jQ B3 N3 ⊢;intro b O hb E3 jH;have M:p≠b:=ck jQ hb;have y_:p≠O:=ck jQ E3;refine⟨b,O,rfl,aX,λl D I Pg wN JD b4=>⟨rfl,?_⟩⟩;have hnb:∀x,upd (upd H3 O (.own b)) b (.ins r O []) x=none->H3 x=none/\x≠b:=λx e=>by
   have n1:x≠b:=λz=>by rw[z,aX]at e;cases e
   rw[bo n1]at e;have n2:x≠O:=λz=>by rw[z,aX]at e;cases e
   rw[bo n2]at e;exact⟨e,n1⟩
  have vD:I p=some (.ins C a (iW c d j)):=b4 _ _ (by rw[bo M,bo y_];exact jQ) M;have hbH:=N3 b hb;have Be:=N3 l (hnb l Pg).1;have Bm:=N3 D (hnb D wN).1;have B4:bJ p H I:=λx o e n=>by
   have nb:x≠b:=ck e hbH;have e3:=B3 x o e n;have nd:x≠O:=ck e3 E3;exact b4 _ _ (by rw[bo nb,bo nd];exact e3) nb
  have N4:∀x,I x=none->H x=none:=λx e=>by
   cases e0:H x with
   |none=>rfl
   |some o=>
    by_cases n:x=p
    ·rw[n,vD]at e;cases e
    ·rw[B4 _ _ e0 n]at e;cases e
  have nkp:∀{m:Hp}{Lx:List Tr}{fl:List (aq×V)},bf r m b l D Lx->m p=some (.ins C a fl)->p≠l/\p≠D:=λ{m Lx fl} hB e=>by
   obtain⟨_,⟨bs,hk,_⟩,hd,_⟩:=hB;exact⟨λz=>(by rw[z,hk]at e;cases e),λz=>(by rw[z,hd]at e;cases e)⟩
  have tp:∀{m:Hp},bJ p H m->dW H m:=λB=>B.cC hp (λu z=>by cases z);refine⟨_,rfl,p,C,a,_,rfl,vD,T.cl,T.nB,(by show 3<1000;decide),?_⟩;have kM:upd I p (.ins C a (aY "book" (.ref b) (iW c d j))) p=some (.ins C a (ie c d j b)):=aX;have B5:bJ p H (upd I p (.ins C a (aY "book" (.ref b) (iW c d j)))):=B4.trans J;have JC:bf r (upd I p (.ins C a (aY "book" (.ref b) (iW c d j)))) b l D []:=JD.jl (Z2 M) vD;generalize upd I p (.ins C a (aY "book" (.ref b) (iW c d j)))=H5 at kM B5 JC ⊢;refine⟨_,rfl,p,C,a,_,_,rfl,kM,T.cl,T.nB,TM _ _ _ _,_,rfl,b,l,D,c,[],rows,rfl,JC,kI.mono (tp B5),gf,DH,q33,by show 0+_<=1190980;lia,by lia,λR k W g2 L1 B6 Fi hw6 nw1 ng1 ng2 ext1 rd1=>?_⟩;obtain⟨s1,e1,l1⟩:=ext1;obtain⟨n1,n2⟩:=nkp JC kM;have vL:=B6 _ _ kM n1 n2;have k5:∃xs,H5 l=some (.lst xs):=by
   obtain⟨_,⟨bs,hk,_⟩,_,_⟩:=id JC;exact⟨_,hk⟩
  have gk1:W≠l:=λz=>by obtain⟨_,e⟩:=k5;rw[z,e]at ng1;cases ng1
  have Y:g2≠l:=λz=>by obtain⟨_,e⟩:=k5;rw[z,e]at ng2;cases ng2
  have B6':bJ p H R:=λx o e n=>B6 _ _ (B5 _ _ e n) (ck e Be) (ck e Bm);refine⟨_,rfl,p,C,a,_,rfl,vL,T.cl,T.nW,(by show 4<1000;decide),?_⟩;have yQ:upd R p (.ins C a (aY "ways" (.ref k) (ie c d j b))) p=some (.ins C a (fq c d j b k)):=aX;have B7:bJ p H (upd R p (.ins C a (aY "ways" (.ref k) (ie c d j b)))):=B6'.trans J;have L:bf r (upd R p (.ins C a (aY "ways" (.ref k) (ie c d j b)))) b l D L1:=Fi.jl (Z2 M) vL;have hw7:cb (upd R p (.ins C a (aY "ways" (.ref k) (ie c d j b)))) k W g2 rows L1:=hw6.jl vL;generalize upd R p (.ins C a (aY "ways" (.ref k) (ie c d j b)))=H7 at yQ B7 L hw7 ⊢;have vO:L1.length<=2*rows.length:=by rw[e1];exact l1
  refine⟨_,rfl,p,C,a,_,_,rfl,yQ,T.cl,T.nB,TL _ _ _ _ _,_,rfl,b,l,D,d,L1,j6,rfl,L,jX.mono (tp B7),mq,za,rd1,by lia,by lia,λG v g3 g4 L2 B8 hB8 hw8 nw2 S X ext2 Lz=>?_⟩;obtain⟨s2,e2,l2⟩:=ext2;obtain⟨n3,n4⟩:=nkp L yQ;have yP:=B8 _ _ yQ n3 n4;have k7:∃xs,H7 l=some (.lst xs):=by
   obtain⟨_,⟨bs,hk,_⟩,_,_⟩:=id L;exact⟨_,hk⟩
  have gk3:g3≠l:=λz=>by obtain⟨_,e⟩:=k7;rw[z,e]at S;cases S
  have gk4:g4≠l:=λz=>by obtain⟨_,e⟩:=k7;rw[z,e]at X;cases X
  have Ot:cb G k W g2 rows L2:=by rw[e2];exact(hw7.keep L B8 gk1 Y).ext L.od s2
  have B8':bJ p H G:=λx o e n=>B8 _ _ (B7 _ _ e n) (ck e Be) (ck e Bm);refine⟨_,rfl,p,C,a,_,rfl,yP,T.cl,T.nX,(by show 5<1000;decide),?_⟩;have w5:upd G p (.ins C a (aY "other_ways" (.ref v) (fq c d j b k))) p=some (.ins C a (aY "other_ways" (.ref v) (fq c d j b k))):=aX;have B9:bJ p H (upd G p (.ins C a (aY "other_ways" (.ref v) (fq c d j b k)))):=B8'.trans J;have Qk:bf r (upd G p (.ins C a (aY "other_ways" (.ref v) (fq c d j b k)))) b l D L2:=hB8.jl (Z2 M) yP;have Z:cb (upd G p (.ins C a (aY "other_ways" (.ref v) (fq c d j b k)))) k W g2 rows L2:=Ot.jl yP;have hx9:cb (upd G p (.ins C a (aY "other_ways" (.ref v) (fq c d j b k)))) v g3 g4 j6 L2:=hw8.jl yP;generalize upd G p (.ins C a (aY "other_ways" (.ref v) (fq c d j b k)))=H9 at w5 B9 Qk Z hx9 ⊢;intro g N;have Z_:p≠g:=ck w5 N;have U:=bF (o:=.dT []) N;have ub:=U _ _ w5;refine⟨_,rfl,p,C,a,_,rfl,ub,T.cl,T.nN,(by show 6<1000;decide),?_⟩;have Jr:H g=none:=by
   cases e0:H g with
   |none=>rfl
   |some o=>rw[B9 _ _ e0 (Z2 Z_)]at N;cases N
  have Gn:bJ p H (upd (upd H9 g (.dT [])) p (.ins C a (aY "known" (.ref g) (aY "other_ways" (.ref v) (fq c d j b k))))):=(B9.trans (bJ.of U)).trans J;refine q b l D k v g (λi=>match i with|0=>W|1=>g2|2=>g3|_=>g4) L2 _ hbH Be Bm Jr ⟨⟨a,aX⟩,(Qk.same U).jl (Z2 M) ub,(Z.same U).jl ub,(hx9.same U).jl ub,λi=>?_,?_,?_,Lz,kI.mono (tp Gn),jX.mono (tp Gn)⟩ (by rw[e2,Zk];lia) Gn
  ·match i with
   |0=>exact gk1
   |1=>exact Y
   |2=>exact gk3
   |i+3=>exact gk4
  ·rw[bo (Z2 Z_)];exact aX
  ·exact λz=>by rw[z,Qk.dc]at N;cases N
end
end Pr
namespace Qf
open Tr
structure lZ(u:Nat->Nat->Nat)(rows j6:List Row)(L0 L:List Tr)(kv:List (List L2.Key×L2.V)):Prop where
 kn:∀x y v,L2.br kv (Pr.aU [x,y])=some v->In L (cV u (T rows x) (T j6 y))/\v=.int (name L (cV u (T rows x) (T j6 y)):Nat)
 lt:∀t∈L,t∈L0\/∃x y,x<rows.length/\y<j6.length/\t=cV u (T rows (x+2)) (T j6 (y+2))
 kd:(kv.map (·.1)).Nodup
 ks:∀k∈kv.map (·.1),∃x y,x<rows.length/\y<j6.length/\k=Pr.aU [x+2,y+2]
theorem lZ.nil{u:Nat->Nat->Nat}{rows a:List Row}{L:List Tr}:lZ u rows a L L []:=⟨λx y v h=>(by cases h),λt h=>.inl h,XZ,λk h=>(by cases h)⟩
theorem lZ.len{u:Nat->Nat->Nat}{rows a:List Row}{L0 L:List Tr}{kv:List (List L2.Key×L2.V)}(h:lZ u rows a L0 L kv)(o:Ord L):L.length<=L0.length+rows.length*a.length:=
 Qw (f:=λx y=>cV u (T rows (x+2)) (T a (y+2))) o.nd h.lt
theorem lZ.NX{u:Nat->Nat->Nat}{rows a:List Row}{L0 L:List Tr}{kv:List (List L2.Key×L2.V)}(h:lZ u rows a L0 L kv):kv.length<=rows.length*a.length:=by
 have:=Qw (L0:=[]) (f:=λx y=>Pr.aU [x+2,y+2]) h.kd λt b=>.inr (h.ks t b);rw[Ze]at this;simpa using this
theorem lZ.ext{u:Nat->Nat->Nat}{rows a:List Row}{L0 L s:List Tr}{kv:List (List L2.Key×L2.V)}(h:lZ u rows a L0 L kv)(o:Ord L)(hs:∀t∈s,∃x y,x<rows.length/\y<a.length/\t=cV u (T rows (x+2)) (T a (y+2))):lZ u rows a L0 (L++s) kv:=by
 refine⟨λx y v e=>?_,λt b=>?_,h.kd,h.ks⟩
 ·obtain⟨h1,h2⟩:=h.kn x y v e;exact⟨h1.app,by rw[dw h1 o];exact h2⟩
 ·rcases Z8.mp b with z|z
  ·exact h.lt t z
  ·exact .inr (hs t z)
theorem Mr{a:Type}[DecidableEq a]{kv:List (a×L2.V)}{k:a}{v:L2.V}(h:L2.br kv k=none):L2.putK kv k v=kv++[(k,v)]:=by
 unfold L2.putK;rw[L2.pV,h]
 rfl
theorem Us{a:Type}[DecidableEq a]{kv:List (a×L2.V)}{k:a}(h:L2.br kv k=none):k∉kv.map (·.1):=λb=>by
 have:=L2.pV k kv;rw[h]at this;obtain⟨q,c,rfl⟩:=ZV.mp b;have h2:(kv.any λkv=>decide (kv.1=q.1))=true:=Wd.mpr ⟨q,c,Zq rfl⟩;rw[this]at h2;cases h2
theorem Ur{a:Type}[DecidableEq a]{kv:List (a×L2.V)}{k:a}{v w:L2.V}(h:L2.br kv k=some w):(L2.putK kv k v).map (·.1)=kv.map (·.1):=by
 unfold L2.putK;rw[L2.pV,h,Zr (show(some w).isSome=true from rfl),Xm];refine Yx λq _=>?_;show(if q.1=k then(q.1,v)else q).1=q.1;split<;>rfl
theorem lZ.put{u:Nat->Nat->Nat}{rows c:List Row}{L0 L:List Tr}{kv:List (List L2.Key×L2.V)}{x y:Nat}(h:lZ u rows c L0 L kv)(j:In L (cV u (T rows (x+2)) (T c (y+2))))(i:x<rows.length)(m:y<c.length):
  lZ u rows c L0 L (L2.putK kv (Pr.aU [x+2,y+2]) (.int (name L (cV u (T rows (x+2)) (T c (y+2))):Nat))):=by
 refine⟨λg f v e=>?_,h.lt,?_,?_⟩
 ·rw[L2.Um]at e;by_cases z:Pr.aU [g,f]=Pr.aU [x+2,y+2]
  ·rw[Zr z]at e;have d:=Pr.vd z;simp only[XG,Vx]at d;obtain⟨rfl,rfl⟩:=d;exact⟨j,(Zu e).symm⟩
  ·rw[Zi z]at e;exact h.kn g f v e
 ·cases hn:L2.br kv (Pr.aU [x+2,y+2])with
  |some w=>rw[Ur hn];exact h.kd
  |none=>
   rw[Mr hn,ZW,Yk];refine⟨h.kd,by simp,λa p b hb e=>?_⟩;have:b=Pr.aU [x+2,y+2]:=by simpa using hb
   exact Us hn (by rw[<- this,<- e];exact p)
 ·cases hn:L2.br kv (Pr.aU [x+2,y+2])with
  |some w=>rw[Ur hn];exact h.ks
  |none=>
   rw[Mr hn,ZW];intro k l;rcases Z8.mp l with z|z
   ·exact h.ks k z
   ·have:k=Pr.aU [x+2,y+2]:=by simpa using z
    exact⟨x,y,i,m,this⟩
end Qf
namespace Pr
open PySem L2 Qf
def lj(a b c:ae)(H d:Hp):Prop:=∀x o,H x=some o->x≠a->x≠b->x≠c->d x=some o
theorem lj.trans{a b c:ae}{H d g:Hp}(x:lj a b c H d)(y:lj a b c d g):lj a b c H g:=λz o h i f e=>y z o (x z o h i f e) i f e
theorem lj.of{a b c:ae}{H d:Hp}(s:aC H d):lj a b c H d:=λx o h _ _ _=>s x o h
section
variable{C CB:ae}{rows j6:List Row}{H H':Hp}{p rp op oc b kk dd w1 w2 g:ae}{G:Nat->ae}{L:List Tr}{kv:List (List Key×V)}
theorem dE.same(h:dE C CB rows j6 H p rp op oc b kk dd w1 w2 g G L kv)(s:aC H H'):dE C CB rows j6 H' p rp op oc b kk dd w1 w2 g G L kv:=by
 obtain⟨⟨l,c⟩,hb,e,d,f,kn,i,k,j,a⟩:=h;exact⟨⟨l,s _ _ c⟩,hb.same s,e.same s,d.same s,f,s _ _ kn,i,k,j.same s,a.same s⟩
theorem dE.tup(h:dE C CB rows j6 H p rp op oc b kk dd w1 w2 g G L kv)(B:lj kk dd g H H'){x:ae}{xs:List V}(e:H x=some (.tup xs)):H' x=some (.tup xs):=by
 obtain⟨_,⟨_,⟨bs,c,_⟩,a,_⟩,_,_,_,d,_⟩:=h;exact B _ _ e (λz=>by rw[z,c]at e;cases e) (λz=>by rw[z,a]at e;cases e) (λz=>by rw[z,d]at e;cases e)
theorem dE.put{D:ae}{xs ys:List V}(h:dE C CB rows j6 H p rp op oc b kk dd w1 w2 g G L kv)(j:H D=some (.lst xs))(v:D≠kk)(d:∀i,i<4->D≠G i):dE C CB rows j6 (upd H D (.lst ys)) p rp op oc b kk dd w1 w2 g G L kv:=by
 obtain⟨⟨w,m⟩,hb,c,a,q,kn,r,s,u,k⟩:=h;have k1:∀{x:ae}{o:HO},H x=some o->x≠D->upd H D (.lst ys) x=some o:=λ{x o} e n=>by rw[bo n];exact e
 have k2:∀{x:ae}{o:HO},H x=some o->(∀l,o≠.lst l)->upd H D (.lst ys) x=some o:=λ{x o} e n=>k1 e λz=>by rw[z,j]at e;exact n xs (Zu e).symm
 have f:dW H (upd H D (.lst ys)):=λx l e=>k2 e λ_ z=>by cases z
 exact⟨⟨w,k2 m λ_ z=>(by cases z)⟩,hb.put j v,⟨f _ _ c.tp,k1 c.a (Z2 (d 0 'c')),k1 c.b (Z2 (d 1 'c')),c.gp⟩,⟨f _ _ a.tp,k1 a.a (Z2 (d 2 'c')),k1 a.b (Z2 (d 3 'c')),a.gp⟩,q,k2 kn (λ_ z=>(by cases z)),r,s,u.mono f,k.mono f⟩
theorem dE.dict{kv':List (List Key×V)}(h:dE C CB rows j6 H p rp op oc b kk dd w1 w2 g G L kv):dE C CB rows j6 (upd H g (.dT kv')) p rp op oc b kk dd w1 w2 g G L kv':=by
 obtain⟨⟨D,w⟩,⟨⟨B,hb⟩,⟨bs,q,I,y⟩,k,s⟩,f,d,u,kn,j,v,F,E⟩:=h;have k2:∀{x:ae}{o:HO},H x=some o->(∀l,o≠.dT l)->upd H g (.dT kv') x=some o:=λ{x o} e n=>by
  rw[bo (λz=>by rw[z,kn]at e;exact n kv (Zu e).symm)];exact e
 have a:dW H (upd H g (.dT kv')):=λx l e=>k2 e λ_ z=>by cases z
 exact⟨⟨D,k2 w λ_ z=>(by cases z)⟩,⟨⟨B,k2 hb λ_ z=>(by cases z)⟩,⟨bs,k2 q (λ_ z=>(by cases z)),I,λi c r A m=>a _ _ (y i c r A m)⟩,by rw[bo (Z2 j)];exact k,s⟩,⟨a _ _ f.tp,k2 f.a (λ_ z=>(by cases z)),k2 f.b (λ_ z=>(by cases z)),f.gp⟩,⟨a _ _ d.tp,k2 d.a (λ_ z=>(by cases z)),k2 d.b (λ_ z=>(by cases z)),d.gp⟩,u,aX,j,v,F.mono a,E.mono a⟩
theorem dE.book{s:List Tr}(h:dE C CB rows j6 H p rp op oc b kk dd w1 w2 g G L kv)(B:dB kk dd H H')(r:bf CB H' b kk dd (L++s))(l:o8 (L++s)):dE C CB rows j6 H' p rp op oc b kk dd w1 w2 g G (L++s) kv:=by
 obtain⟨⟨u,a⟩,hb,m,k,c,kn,d,_,q,j⟩:=h;obtain⟨_,⟨bs,f,_⟩,i,e⟩:=id hb;exact⟨⟨u,B _ _ a (λz=>(by rw[z,f]at a;cases a)) (λz=>(by rw[z,i]at a;cases a))⟩,r,(m.keep hb B (c 0) (c 1)).ext e s,(k.keep hb B (c 2) (c 3)).ext e s,c,B _ _ kn (λz=>(by rw[z,f]at kn;cases kn)) d,d,l,hb.rows B q,hb.rows B j⟩
theorem dE.Gs(h:dE C CB rows j6 H p rp op oc b kk dd w1 w2 g G L kv){D:ae}(a:H D=none):∀i,i<4->D≠G i:=λi c=>by
 match i,c with
 |0,_=>exact(ck h.wa.a a).symm
 |1,_=>exact(ck h.wa.b a).symm
 |2,_=>exact(ck h.wb.a a).symm
 |3,_=>exact(ck h.wb.b a).symm
end
section
variable{mg:aq->Option aa}{base:ao}
abbrev nNP:List aq:=["self","number","other","row","other_row"]
abbrev qU:List aq:=["self","number","other"]
theorem qo:aE nNP qU (cg II):=cZ
def xN(K:PySem.W.Frag)(C s:ae)(d:Nat):Sp:=λD H Q _=>∃(p B m i b h k q v g:ae)(G:Nat->ae)(u:Nat->Nat->Nat)(x y:Nat)(l L:List Tr)(A:List (List Key×V))(rows a:List Row),D=[.ref p,.int (x:Nat),.int (y:Nat)]/\dE C s rows a H p B m i b h k q v g G L A/\iD K i (vN [u 0 0,u 0 1,u 1 0,u 1 1])/\Oc u/\cz rows/\cz a/\(∀r∈rows,¬fJ r)/\(∀r∈a,¬fJ r) /\
 x<rows.length+2/\y<a.length+2/\dp rows x<=d/\lZ u rows a l L A/\l.length+rows.length*a.length<=1190890 /\
 ∀(j:Hp)(c:List Tr)(f:List (List Key×V)),lj h k g H j->dE C s rows a j p B m i b h k q v g G c f->(∃e,c=L++e)->Tr.In c (cV u (T rows x) (T a y))->lZ u rows a l c f->Q (.int (Tr.name c (cV u (T rows x) (T a y)):Nat)) j
theorem xQ4{f fN fP fS C CB:ae}{fd gE iB dz:ai}(F:aP K "number_for_pair" "Deed.number_for_pair" II f fd)(B:d_ mg)(pF:mg "zip"=none)(Tc:lh mg)(k:uE K mg C)(TB:fz K mg CB)(M:Meth K C "number_for_pair" f)(bM:Binds K fd qU [])
  (MN:Meth K CB "number_for" fN) (FN:aP K "number_for" "Book.number_for" C7 fN gE) (bN:Binds K gE ["self","row"] [])
  (hP:mg "is_plain"=some (.ref fP)) (FP:aP K "is_plain" "is_plain" uW fP iB) (bP:Binds K iB ["row"] [])
  (hS:mg "number_beside_plain"=some (.ref fS)) (FS:aP K "number_beside_plain" "number_beside_plain" IJ fS dz) (bS:Binds K dz DP []):∀d,aB P w K mg base aJ (d+4) f fd qU (xN K C CB d):=by
 have GN:aB P w K mg base aJ 3 fN gE ["self","row"] (K2 CB):=RH FN B Tc TB hP FP bP;have GS:aB P w K mg base aJ 1 fS dz DP Cg:=xQ2 FS;obtain⟨tf,kA⟩:=Tc.first;intro d
 induction d with
 |zero=>
  refine F.ok qo (λvs H Q E h=>?_) (λbp A outer s H vs Q E hr h=>?_)
  ·obtain⟨p,rp,op,J,b,X,dd,w1,w2,g,G,u,x,y,L0,L,kv,rows,j,rfl,_⟩:=h
   rfl
  ·obtain⟨p,rp,op,J,b,X,dd,w1,w2,g,G,u,x,y,L0,L,kv,rows,j,rfl,hA,jN,hu,gf,mq,DH,za,hx,hy,Jv,hD,hL0,q⟩:=h;have jC:aS 1 _:=hr.mono 'c';refine aO ⟨_,⟨c9 (dI mi (pv 1) (cX (v:=.int 2) 'd' kA ⟨_,rfl⟩) (cP _)) (cm (cj (df.go ⟨bZ GS jC hS FS.kp bS (cw.go (.cons ⟨ju (pv 0) rfl⟩ (.cons ⟨pv 2⟩ (.cons ⟨tO C_ (ju (pv 0) rfl) (nF (cy pP aR (pv 1))) (nF (cy iR (cy pP aR (pv 1)) aR))⟩ .nil rfl) rfl) rfl))⟩))) c_⟩,?_⟩;refine⟨_,m8,?_⟩;obtain⟨⟨dx,kW⟩,_⟩:=id hA;refine⟨_,rfl,_,_,rfl,rfl,_,rfl,?_⟩;have zf:∀(x2:x<2){Q1:VK},(∀H' L' kv',lj X dd g H H'->dE C CB rows j H' p rp op J b X dd w1 w2 g G L' kv'->(∃e,L'=L++e)->Tr.In L' (cV u (T rows x) (T j y))->lZ u rows j L0 L' kv'->Q1 (.int (Tr.name L' (cV u (T rows x) (T j y)):Nat)) H') ->
     ∀o,H o=none->∃(t o' g1 g2:ae)(x' e f:Nat)(L:List Tr)(rows:List Row),[V.ref w2,V.int (y:Nat),V.ref o]=[.ref t,.int (x':Nat),.ref o']/\cb (upd H o (.tup [V.int (u x 0:Nat),V.int (u x 1:Nat)])) t g1 g2 rows L/\upd H o (.tup [V.int (u x 0:Nat),V.int (u x 1:Nat)]) o'=some (.tup [.int (e:Nat),.int (f:Nat)])/\e<2/\f<2/\x'<rows.length+2 /\
      (Tr.In L (aZ e f (T rows x'))->Q1 (.int (Tr.name L (aZ e f (T rows x')):Nat)) (upd H o (.tup [V.int (u x 0:Nat),V.int (u x 1:Nat)]))):=λx2 {Q1} q o ho=>by
    have eb:cV u (T rows x) (T j y)=aZ (u x 0) (u x 1) (T j y):=by
     have:x=0\/x=1:=by lia
     rcases this with rfl|rfl
     ·rw[iP];rfl
     ·rw[iH];rfl
    rw[eb]at q;have U:=bF (o:=.tup [V.int (u x 0:Nat),V.int (u x 1:Nat)]) ho;exact⟨w2,o,G 2,G 3,y,u x 0,u x 1,L,j,rfl,hA.wb.same U,aX,hu x 0,hu x 1,hy,λjO=>q _ L kv (lj.of U) (hA.same U) ⟨[],by simp⟩ jO hD⟩
   have x2:x<2:=by
    by_cases z:x<2
    ·exact z
    ·obtain⟨l,R,S,O,N,rfl,jD⟩:=mj gf hx z;rw[pN gf jD]at Jv;lia
   refine dD (λhc=>?_) (λhc=>absurd (Zq 'a') hc)
   ·have x2:x<2:=by have:=ZI hc;lia
    have go:=zf x2 q;have:x=0\/x=1:=by lia
    rcases this with rfl|rfl
    ·exact⟨_,rfl,p,C,dx,_,_,rfl,kW,k.cl,k.nX,Hm _ _ _ _ _ _ _,_,rfl,_,rfl,p,C,dx,_,_,rfl,kW,k.cl,k.nC,C3 _ _ _ _ _ _ _,_,rfl,_,_,rfl,rfl,.inl 'c',_,rfl,_,rfl,_,_,rfl,rfl,.inl 'c',_,_,rfl,rfl,_,rfl,J,_,rfl,(.inr jN:aQ K H J _),(λz=>absurd (show HT.cI 4 4 (some 2)=4 from z.2) 'c'),λo ho=>go o ho⟩
    ·exact⟨_,rfl,p,C,dx,_,_,rfl,kW,k.cl,k.nX,Hm _ _ _ _ _ _ _,_,rfl,_,rfl,p,C,dx,_,_,rfl,kW,k.cl,k.nC,C3 _ _ _ _ _ _ _,_,rfl,_,_,rfl,rfl,.inl 'c',_,rfl,_,rfl,_,_,rfl,rfl,.inl 'c',_,_,rfl,rfl,_,rfl,J,_,rfl,(.inr jN:aQ K H J _),(λz=>absurd (show HT.cI 4 0 (some 2)=0 from z.1) 'c'),λo ho=>go o ho⟩
 |succ d ih=>
  refine F.ok qo (λvs H Q E h=>?_) (λbp A outer s H vs Q E hr h=>?_)
  ·obtain⟨p,rp,op,J,b,X,dd,w1,w2,g,G,u,x,y,L0,L,kv,rows,j,rfl,_⟩:=h
   rfl
  ·obtain⟨p,rp,op,J,b,X,dd,w1,w2,g,G,u,x,y,L0,L,kv,rows,j,rfl,hA,jN,hu,gf,mq,DH,za,hx,hy,Jv,hD,hL0,q⟩:=h;have jC:aS 1 _:=hr.mono 'a';have yO:aS 3 _:=hr.mono 'a';have Ow:A.units+3+1<cLine:=by
    have h2:A.units+3+16*(d+4)+200<cLine:=hr.un;lia
   refine aO ⟨_,⟨c9 (dI mi (pv 1) (cX (v:=.int 2) 'd' kA ⟨_,rfl⟩) (cP _)) (cm (cj (df.go ⟨bZ GS jC hS FS.kp bS (cw.go (.cons ⟨ju (pv 0) rfl⟩ (.cons ⟨pv 2⟩ (.cons ⟨tO C_ (ju (pv 0) rfl) (nF (cy pP aR (pv 1))) (nF (cy iR (cy pP aR (pv 1)) aR))⟩ .nil rfl) rfl) rfl))⟩))) c_⟩,?_⟩;refine aO ⟨_,⟨c9 (dI mi (pv 2) (cX (v:=.int 2) 'd' kA ⟨_,rfl⟩) (cP _)) (cm (cj (df.go ⟨bZ GS jC hS FS.kp bS (cw.go (.cons ⟨ju (pv 0) rfl⟩ (.cons ⟨pv 1⟩ (.cons ⟨MT xJ9 (ju (pv 0) rfl) (nF (pv 2)) pS (nF aR)⟩ .nil rfl) rfl) rfl))⟩))) c_⟩,?_⟩;refine aO ⟨_,⟨c9 (uZ (HU Ow (kq (aD (pv 1) (aD (pv 2) aH))) (ju (pv 0) rfl)))
    (oW.go (.cons ⟨eI 3 qo.nd (cO gb (ju (pv 0) rfl) (cy pQ (pv 1) (cX (v:=.int 2) 'd' kA ⟨_,rfl⟩)))⟩
    (.cons ⟨eI 4 qo.nd (cO gb (ju (pv 0) rfl) (cy pQ (pv 2) (cX (v:=.int 2) 'd' kA ⟨_,rfl⟩)))⟩
    (.one ⟨AE Ow (ju (pv 0) rfl) (kq (aD (pv 1) (aD (pv 2) aH))) (df.go ⟨AI (ju (pv 0) rfl) TB.cl MN GN yO bN .nil tU (cw.go (.cons ⟨hZ (l6 K rfl) 'd' B.tuple ZE (cw.go (.cons ⟨MK nNP (cg II) rfl rfl rfl qo.nd (xC4 'd' pF (aD (pv 3) (aD (pv 4) aH)))
     (λcl C' fp aG aK=>AI (pv 2) k.cl M ih hr bM .nil tU (aD (pv 0) (aD (pv 1) aH)))⟩ .nil rfl))⟩ .nil rfl))⟩) 'd'⟩)))) c_⟩,?_⟩
   refine fV ⟨_,⟨cj (AF Ow (ju (pv 0) rfl) (kq (aD (pv 1) (aD (pv 2) aH))) (λ_ _=>rfl))⟩,?_⟩;obtain⟨⟨dx,kW⟩,_⟩:=id hA;refine⟨_,rfl,_,_,rfl,rfl,_,rfl,?_⟩;have zf:∀(x2:x<2){Q1:VK},(∀H' L' kv',lj X dd g H H'->dE C CB rows j H' p rp op J b X dd w1 w2 g G L' kv'->(∃e,L'=L++e)->Tr.In L' (cV u (T rows x) (T j y))->lZ u rows j L0 L' kv'->Q1 (.int (Tr.name L' (cV u (T rows x) (T j y)):Nat)) H') ->
     ∀o,H o=none->∃(t o' g1 g2:ae)(x' e f:Nat)(L:List Tr)(rows:List Row),[V.ref w2,V.int (y:Nat),V.ref o]=[.ref t,.int (x':Nat),.ref o']/\cb (upd H o (.tup [V.int (u x 0:Nat),V.int (u x 1:Nat)])) t g1 g2 rows L/\upd H o (.tup [V.int (u x 0:Nat),V.int (u x 1:Nat)]) o'=some (.tup [.int (e:Nat),.int (f:Nat)])/\e<2/\f<2/\x'<rows.length+2 /\
      (Tr.In L (aZ e f (T rows x'))->Q1 (.int (Tr.name L (aZ e f (T rows x')):Nat)) (upd H o (.tup [V.int (u x 0:Nat),V.int (u x 1:Nat)]))):=λx2 {Q1} q o ho=>by
    have eb:cV u (T rows x) (T j y)=aZ (u x 0) (u x 1) (T j y):=by
     have:x=0\/x=1:=by lia
     rcases this with rfl|rfl
     ·rw[iP];rfl
     ·rw[iH];rfl
    rw[eb]at q;have U:=bF (o:=.tup [V.int (u x 0:Nat),V.int (u x 1:Nat)]) ho;exact⟨w2,o,G 2,G 3,y,u x 0,u x 1,L,j,rfl,hA.wb.same U,aX,hu x 0,hu x 1,hy,λjO=>q _ L kv (lj.of U) (hA.same U) ⟨[],by simp⟩ jO hD⟩
   refine dD (λhc=>?_) (λhc=>?_)
   ·have x2:x<2:=by have:=ZI hc;lia
    have go:=zf x2 q;have:x=0\/x=1:=by lia
    rcases this with rfl|rfl
    ·exact⟨_,rfl,p,C,dx,_,_,rfl,kW,k.cl,k.nX,Hm _ _ _ _ _ _ _,_,rfl,_,rfl,p,C,dx,_,_,rfl,kW,k.cl,k.nC,C3 _ _ _ _ _ _ _,_,rfl,_,_,rfl,rfl,.inl 'c',_,rfl,_,rfl,_,_,rfl,rfl,.inl 'c',_,_,rfl,rfl,_,rfl,J,_,rfl,(.inr jN:aQ K H J _),(λz=>absurd (show HT.cI 4 4 (some 2)=4 from z.2) 'c'),λo ho=>go o ho⟩
    ·exact⟨_,rfl,p,C,dx,_,_,rfl,kW,k.cl,k.nX,Hm _ _ _ _ _ _ _,_,rfl,_,rfl,p,C,dx,_,_,rfl,kW,k.cl,k.nC,C3 _ _ _ _ _ _ _,_,rfl,_,_,rfl,rfl,.inl 'c',_,rfl,_,rfl,_,_,rfl,rfl,.inl 'c',_,_,rfl,rfl,_,rfl,J,_,rfl,(.inr jN:aQ K H J _),(λz=>absurd (show HT.cI 4 0 (some 2)=0 from z.1) 'c'),λo ho=>go o ho⟩
   have x2:¬x<2:=λz=>hc (Zq 'a');refine⟨_,rfl,_,_,rfl,rfl,_,rfl,?_⟩;refine dD (λy7=>?_) (λy7=>?_)
   ·have y2:y<2:=by have:=ZI y7;lia
    have eb:cV u (T rows x) (T j y)=aZ (u 0 y) (u 1 y) (T rows x):=by
     have:y=0\/y=1:=by lia
     rcases this with rfl|rfl
     ·rw[iP];exact xC9 hu _
     ·rw[iH];exact xD0 hu _
    rw[eb]at q;refine⟨_,rfl,p,C,dx,_,_,rfl,kW,k.cl,k.nW,xD5 _ _ _ _ _ _ _,_,rfl,_,rfl,p,C,dx,_,_,rfl,kW,k.cl,k.nC,C3 _ _ _ _ _ _ _,_,rfl,_,rfl,_,rfl,J,_,_,_,_,y,rfl,rfl,rfl,rfl,y2,(.inr jN:aQ K H J _),λo ho=>?_⟩;have ec:(if y=0 then[V.int (u 0 0:Nat),V.int (u 1 0:Nat)]else[V.int (u 0 1:Nat),V.int (u 1 1:Nat)])=[V.int (u 0 y:Nat),V.int (u 1 y:Nat)]:=by
     have:y=0\/y=1:=by lia
     rcases this with rfl|rfl
     ·rfl
     ·rfl
    have U:=bF (o:=.tup (if y=0 then[V.int (u 0 0:Nat),V.int (u 1 0:Nat)]else[V.int (u 0 1:Nat),V.int (u 1 1:Nat)])) ho;exact⟨w1,o,G 0,G 1,x,u 0 y,u 1 y,L,rows,rfl,hA.wa.same U,(by rw[<- ec];exact aX),hu 0 y,hu 1 y,hx,λjO=>q _ L kv (lj.of U) (hA.same U) ⟨[],by simp⟩ jO hD⟩
   have y2:¬y<2:=λz=>y7 (Zq 'a');obtain⟨l,R,S,O,N,rfl,jD⟩:=mj gf hx x2;obtain⟨r,Z,b1,W,Y,rfl,yJ⟩:=mj mq hy y2;have w4:=(cx jD).1;have hqr:=(cx yJ).1;have hT:cV u (T rows (l+2)) (T j (r+2))=ky (cV u (T rows R) (T j Z)) (cV u (T rows S) (T j b1)) (cV u (T rows O) (T j W)) (cV u (T rows N) (T j Y)):=by rw[km gf jD,km mq yJ];rfl
   have oQ:∀{Hx:Hp}{t:ae},upd Hx t (.tup [V.int ((l+2:Nat):Int),V.int ((r+2:Nat):Int)]) t=some (.tup ((aU [l+2,r+2]).map kV)):=λ{Hx t}=>by rw[aX,sg];rfl
   refine⟨_,rfl,_,rfl,(by show 2<=sizeLine;decide),λk1 wI=>?_⟩;have S1:=bF (o:=.tup [V.int ((l+2:Nat):Int),V.int ((r+2:Nat):Int)]) wI;have zB:=hA.same S1;have xc:=oQ (Hx:=H) (t:=k1);generalize upd H k1 (.tup [V.int ((l+2:Nat):Int),V.int ((r+2:Nat):Int)])=H1 at S1 zB xc ⊢;obtain⟨⟨pK,rn⟩,P4,_,_,_,kX,Px,_,OM,OJ⟩:=id zB;refine⟨_,rfl,p,C,pK,_,_,rfl,rn,k.cl,k.nN,Hl _ _ _ _ _ _ _,g,_,rfl,cS.t kX xc,_,rfl,?_⟩;cases ER:br kv (aU [l+2,r+2])with
   |some v=>
    obtain⟨k2,rfl⟩:=hD.kn _ _ _ ER;refine b_ ?_;refine⟨_,rfl,p,C,pK,_,_,rfl,rn,k.cl,k.nN,Hl _ _ _ _ _ _ _,_,rfl,_,rfl,(by show 2<=sizeLine;decide),λk3 wZ=>?_⟩;have S3:=bF (o:=.tup [V.int ((l+2:Nat):Int),V.int ((r+2:Nat):Int)]) wZ;have dg:=cS.t (S3 _ _ kX) (oQ (Hx:=H1) (t:=k3));rw[ER]at dg;exact⟨g,_,rfl,dg,q _ L kv (lj.of (S1.trans S3)) (zB.same S3) ⟨[],by simp⟩ k2 hD⟩
   |none=>
    refine cB ?_;obtain⟨bs,vY,wO,jA⟩:=id OM;obtain⟨cs,OR,vK,zH⟩:=id OJ;have wU:bs[l]?=some (bs[l]'(by lia)):=Zd 'a';have Bo:cs[r]?=some (cs[r]'(by lia)):=Zd 'a';have wG:=jA l _ _ wU jD;have vZ:=zH r _ _ Bo yJ;refine⟨_,rfl,p,C,pK,_,_,rfl,rn,k.cl,k.nR,xD4 _ _ _ _ _ _ _,_,rfl,_,_,rfl,rfl,rp,_,((l:Nat):Int),.ref (bs[l]'(by lia)),rfl,Yo V.int 'a',aQ.of vY,kr (by rw[Zf,wU];rfl),?_⟩;refine⟨_,rfl,p,C,pK,_,_,rfl,rn,k.cl,k.nO,xq5 _ _ _ _ _ _ _,_,rfl,_,_,rfl,rfl,op,_,((r:Nat):Int),.ref (cs[r]'(by lia)),rfl,Yo V.int 'a',aQ.of OR,kr (by rw[Zf,Bo];rfl),?_⟩;generalize bs[l]'(by lia)=ra at wG ⊢;generalize cs[r]'(by lia)=rb at vZ ⊢;obtain⟨⟨Fy,Fc⟩,⟨kbs,Pf,_⟩,PV,_⟩:=id P4;refine⟨_,rfl,p,C,pK,_,_,rfl,rn,k.cl,k.nB,Si _ _ _ _ _ _ _,b,Fy,_,rfl,Fc,SR _ _,?_⟩;have jO:∀q∈[(R,Z),(S,b1),(O,W),(N,Y)],q.1<rows.length+2/\q.2<j.length+2/\dp rows q.1<=d:=λq hq=>by
     obtain⟨h1,h2,h3,h4⟩:=SV gf jD;obtain⟨e1,e2,e3,e4⟩:=SV mq yJ;obtain⟨g1,g2,g3,g4⟩:=Sy gf jD Jv;have:q=(R,Z)\/q=(S,b1)\/q=(O,W)\/q=(N,Y):=by simpa using hq
     rcases this with rfl|rfl|rfl|rfl
     ·exact⟨h1,e1,g1⟩
     ·exact⟨h2,e2,g2⟩
     ·exact⟨h3,e3,g3⟩
     ·exact⟨h4,e4,g4⟩
    refine⟨_,rfl,_,rfl,ra,rb,rfl,⟨_,aQ.of wG⟩,⟨_,aQ.of vZ⟩,λD yB=>xf9 (K:=K) (us:=vN [R,S,O,N]) (ws:=vN [Z,b1,W,Y]) (λi xs H2=>∃Li k_,dE C CB rows j H2 p rp op J b X dd w1 w2 g G Li k_/\(∃e,Li=L++e)/\lZ u rows j L0 Li k_/\(∀q∈[(R,Z),(S,b1),(O,W),(N,Y)].take i,Tr.In Li (cV u (T rows q.1) (T j q.2))) /\
     xs=vN (([(R,Z),(S,b1),(O,W),(N,Y)].take i).map λq=>Tr.name Li (cV u (T rows q.1) (T j q.2)))/\H2 D=some (.lst xs)/\lj X dd g H1 H2) rfl (by show 4<sizeLine;decide) ?_ ?_ ?_ ?_ ?_⟩
    ·exact⟨L,kv,zB.same (bF yB),⟨[],by simp⟩,hD,λq hq=>(by simp at hq),rfl,aX,lj.of (bF yB)⟩
    ·rintro i xs H2 ⟨Li,k_,Bv,uh,kJ,rD,rfl,yM,B2⟩;refine⟨yM,?_,zB.tup B2 wG,zB.tup B2 vZ⟩;rw[dM,Ze,ZT];exact Nat.min_le_left _ _
    ·rintro i xs H2 H3 ⟨Li,k_,Bv,uh,kJ,rD,rfl,yM,B2⟩ s3;exact⟨Li,k_,Bv.same s3,uh,kJ,rD,rfl,s3 _ _ yM,B2.trans (lj.of s3)⟩
    ·rintro i xs vx vy H2 hvx hvy ⟨Li,k_,Bv,⟨e2,rfl⟩,kJ,rD,rfl,yM,B2⟩ Q2 hq;obtain⟨m,hm,rfl⟩:=mZ hvx;obtain⟨n,hn,rfl⟩:=mZ hvy;have vX:[(R,Z),(S,b1),(O,W),(N,Y)][i]?=some (m,n):=by
      match i with
      |0=>cases hm;cases hn;rfl
      |1=>cases hm;cases hn;rfl
      |2=>cases hm;cases hn;rfl
      |3=>cases hm;cases hn;rfl
      |i+4=>simp at hm
     obtain⟨wY,yT,vJ⟩:=jO (m,n) (Zo vX);have lN:[(R,Z),(S,b1),(O,W),(N,Y)].take (i+1)=[(R,Z),(S,b1),(O,W),(N,Y)].take i++[(m,n)]:=by rw[Vw,vX];rfl
     obtain⟨⟨Fz,zC⟩,_⟩:=id Bv;have zb:D≠X:=(ck Pf yB).symm;have nDd:D≠dd:=(ck PV yB).symm;have NG:D≠g:=(ck kX yB).symm;refine⟨_,rfl,p,Fz,_,rfl,zC,Sh _ _ _ _ _ _ _,_,rfl,_,rfl,p,rp,op,J,b,X,dd,w1,w2,g,G,u,m,n,L0,L++e2,k_,rows,j,rfl,Bv,jN,hu,gf,mq,DH,za,wY,yT,vJ,kJ,hL0,λH3 L3 NW B3 A3 ext3 Eh D3=>?_⟩;obtain⟨e3,rfl⟩:=ext3;have vB:=B3 _ _ yM zb nDd NG;have od2:=Bv.bk.od;refine hq _ _ vB ⟨L++e2++e3,NW,A3.put vB zb (zB.Gs yB),⟨e2++e3,by rw[Z6]⟩,D3,?_,?_,aX,?_⟩
     ·intro q lY;rw[lN]at lY;rcases Z8.mp lY with z|z
      ·exact(rD q z).app
      ·have:q=(m,n):=by simpa using z
       rw[this];exact Eh
     ·rw[lN,ZW];unfold vN;rw[ZW];congr 1;refine Yo (List.map _) (Yx λq lY=>?_);exact(Tr.dw (rD q lY) od2).symm
     ·intro x o e n1 n2 n3;rw[bo (ck e yB)];exact B3 _ _ (B2 _ _ e n1 n2 n3) n1 n2 n3
    ·rintro xs H2 ⟨I,Ed,Fl,⟨e4,uh⟩,wF,rB,rfl,yM,B2⟩;have h4:(vN [R,S,O,N]).length=4:=rfl;rw[h4]at rB yM;have i0:=rB (R,Z) 'b';have i1:=rB (S,b1) 'b';have i2:=rB (O,W) 'b';have i3:=rB (N,Y) 'b';have hl4:=wF.len Fl.bk.od;refine⟨D,_,rfl,.inl ⟨bY.of yM,λu3 hu3=>?_⟩⟩;have S3:=bF (o:=.tup (vN (([(R,Z),(S,b1),(O,W),(N,Y)].take 4).map λq=>Tr.name I (cV u (T rows q.1) (T j q.2))))) hu3;have Fj:=Fl.same S3;have hu5:upd H2 u3 (.tup (vN (([(R,Z),(S,b1),(O,W),(N,Y)].take 4).map λq=>Tr.name I (cV u (T rows q.1) (T j q.2))))) u3=some (.tup (vN [Tr.name I (cV u (T rows R) (T j Z)),Tr.name I (cV u (T rows S) (T j b1)),Tr.name I (cV u (T rows O) (T j W)),Tr.name I (cV u (T rows N) (T j Y))])):=by rw[aX];rfl
     have B5:=B2.trans (lj.of (a:=X) (b:=dd) (c:=g) S3);generalize upd H2 u3 (.tup (vN (([(R,Z),(S,b1),(O,W),(N,Y)].take 4).map λq=>Tr.name I (cV u (T rows q.1) (T j q.2)))))=H5 at Fj hu5 B5 ⊢;refine⟨b,X,dd,u3,I,_,_,_,_,rfl,Fj.bk,hu5,i0,i1,i2,i3,by lia,λH6 B6 Fi=>?_⟩;rw[<- hT]at Fi ⊢;obtain⟨e5,vT,Pd⟩:=LZ (cV u (T rows (l+2)) (T j (r+2))) I;have Pq:=RJ (cV u (T rows (l+2)) (T j (r+2))) I;have kN:∀t∈e5,t=cV u (T rows (l+2)) (T j (r+2)):=λt ht=>by
      unfold ins at vT;split at vT
      ·have:e5=[]:=by
        have:=Yo List.length vT;rw[Zk]at this;exact List.length_eq_zero_iff.mp 'a'
       rw[this]at ht;cases ht
      ·have:=List.append_cancel_left vT;rw[<- this]at ht;simpa using ht
     have Ex:o8 (ins (cV u (T rows (l+2)) (T j (r+2))) I):=Sk Fj.rd (AN u _ _ (Gx gf DH _ hx) (Gx mq za _ hy));rw[vT]at Fi Pq Ex ⊢;have hA6:=Fj.book B6 Fi Ex;have yD:=wF.ext (s:=e5) Fj.bk.od λt ht=>⟨l,r,w4,hqr,kN t ht⟩;have hl5:=yD.NX;obtain⟨⟨dx6,OV⟩,_,_,_,_,Bi,_,_⟩:=id hA6;refine⟨_,rfl,p,C,dx6,_,_,rfl,OV,k.cl,k.nN,Hl _ _ _ _ _ _ _,_,rfl,_,rfl,(by show 2<=sizeLine;decide),λk2 vS=>?_⟩;have S6:=bF (o:=.tup [V.int ((l+2:Nat):Int),V.int ((r+2:Nat):Int)]) vS;have dp6:=gZ.t (v:=.int (Tr.name (I++e5) (cV u (T rows (l+2)) (T j (r+2))):Nat)) (S6 _ _ Bi) (oQ (Hx:=H6) (t:=k2)) (ml 'a');refine⟨g,_,rfl,dp6,?_⟩;have JF:=(hA6.same S6).dict (kv':=putK Ed (aU [l+2,r+2]) (.int (Tr.name (I++e5) (cV u (T rows (l+2)) (T j (r+2))):Nat)));have yC:=yD.put Pq w4 hqr;have En:br (putK Ed (aU [l+2,r+2]) (.int (Tr.name (I++e5) (cV u (T rows (l+2)) (T j (r+2))):Nat))) (aU [l+2,r+2])=some (.int (Tr.name (I++e5) (cV u (T rows (l+2)) (T j (r+2))):Nat)):=by rw[Um,Zr rfl]
     have B7:lj X dd g H (upd (upd H6 k2 (.tup [V.int ((l+2:Nat):Int),V.int ((r+2:Nat):Int)])) g (.dT (putK Ed (aU [l+2,r+2]) (.int (Tr.name (I++e5) (cV u (T rows (l+2)) (T j (r+2))):Nat))))):=λx o e n1 n2 n3=>by
      rw[bo n3];exact S6 _ _ (B6 _ _ (B5 _ _ (S1 _ _ e) n1 n2 n3) n1 n2)
     generalize putK Ed (aU [l+2,r+2]) (.int (Tr.name (I++e5) (cV u (T rows (l+2)) (T j (r+2))):Nat))=kv7 at JF yC En B7 ⊢;generalize upd (upd H6 k2 (.tup [V.int ((l+2:Nat):Int),V.int ((r+2:Nat):Int)])) g (.dT kv7)=H7 at JF B7 ⊢;obtain⟨⟨dx7,OU⟩,_,_,_,_,Js,_,_⟩:=id JF;refine⟨_,rfl,p,C,dx7,_,_,rfl,OU,k.cl,k.nN,Hl _ _ _ _ _ _ _,_,rfl,_,rfl,(by show 2<=sizeLine;decide),λk3 wZ=>?_⟩;have S7:=bF (o:=.tup [V.int ((l+2:Nat):Int),V.int ((r+2:Nat):Int)]) wZ;have dg:=cS.t (S7 _ _ Js) (oQ (Hx:=H7) (t:=k3));rw[En]at dg;exact⟨g,_,rfl,dg,q _ (I++e5) kv7 (B7.trans (lj.of S7)) (JF.same S7) ⟨e4++e5,by rw[uh,Z6]⟩ Pq yC⟩
theorem Cn:aE ["one","other"] ["one","other"] (cg uT):=cZ
def sX:Sp:=λd H Q _=>∃(t a:ae)(n f c:Nat)(rows e:List Row),d=[.ref t,.ref a]/\gO H t n f rows/\gO H a n c e/\∀b,aC H b->Q .cA b
theorem xQ5{f e:ae}{v d:ai}(F:aP K "want_one_floor" "want_one_floor" uT f v)(p:mg "want_shape"=some (.ref e))(i:aP K "want_shape" "want_shape" uU e d)(m:Binds K d ["shape"] [])(j:aB P w K mg base aJ 16 e d ["shape"] Ma):
  aB P w K mg base aJ 17 f v ["one","other"] sX:=by
 refine F.ok Cn (λx H Q E h=>?_) (λI A c s H x Q E l h=>?_)
 ·obtain⟨t,b,n,r,u,rows,k,rfl,_⟩:=h
  rfl
 ·obtain⟨t,b,n,r,u,rows,k,rfl,h1,h2,q⟩:=h;refine aO ⟨_,⟨ip (bZ j l p i.kp m (aD (pv 0) aH))⟩,?_⟩;refine aO ⟨_,⟨ip (bZ j l p i.kp m (aD (pv 1) aH))⟩,?_⟩;refine fV ⟨_,⟨c9 (dI qH (cO gb (pv 0) aR) (cO gb (pv 1) aR) (cP _)) m8 c_⟩,?_⟩;refine⟨_,rfl,t,n,r,rows,rfl,h1,λG a=>?_⟩;refine⟨_,rfl,b,n,u,k,rfl,mm h2 a,λC g=>?_⟩;obtain⟨⟨D,B,_⟩,_⟩:=mm h1 (a.trans g);obtain⟨⟨J,y,_⟩,_⟩:=mm h2 (a.trans g);refine⟨_,rfl,t,_,0,.int (n:Nat),rfl,rfl,aQ.of B,rfl,_,rfl,b,_,0,.int (n:Nat),rfl,rfl,aQ.of y,rfl,rfl,_,rfl,?_⟩;rw[Zq rfl];exact b_ (q C (a.trans g))
abbrev nBT:List aq:=["one","other","outcomes","deed"]
theorem xW:aE nBT ["one","other","outcomes"] (cg ve):=cZ
def nq(K:PySem.W.Frag):Sp:=λi H Q _=>∃(t d e:ae)(u:Nat->Nat->Nat)(n h c:Nat)(rows a:List Row),i=[.ref t,.ref d,.ref e]/\gO H t n h rows/\gO H d n c a/\iD K e (vN [u 0 0,u 0 1,u 1 0,u 1 1])/\Oc u/\2*rows.length+2*a.length+rows.length*a.length<=1190890 /\
 ∀(b:Hp)(g:ae)(f:Nat)(rws:List Row),aC H b->Il b g n f rws->T rws f=cV u (T rows h) (T a c)->rws.length<=1190890->Q (.ref g) b
theorem xQ6{f fW fI fL X C O:ae}{fd cU y J dz:ai}(F:aP K "brought_together" "brought_together" ve f fd)(N:uE K mg C)(TB:fz K mg O)
  (hW:mg "want_one_floor"=some (.ref fW)) (FW:aP K "want_one_floor" "want_one_floor" uT fW cU) (bW:Binds K cU ["one","other"] []) (GW:aB P w K mg base aJ 17 fW cU ["one","other"] sX)
  (ML:Mk K C fI) (bI:Binds K y DQ []) (GI:aB P w K mg base aJ 6 fI y DQ (xT C O))
  (MN:Meth K C "number_for_pair" fL) (bL:Binds K J qU []) (GL:∀d,aB P w K mg base aJ (d+4) fL J qU (xN K C O d))
  (hS:mg "shape_of"=some (.ref X)) (FS:aP K "shape_of" "shape_of" HE X dz) (bS:Binds K dz ["n","top","rows"] []) (GS:aB P w K mg base aJ 15 X dz ["n","top","rows"] Cd):
  aB P w K mg base aJ 18 f fd ["one","other","outcomes"] (nq K):=by
 refine F.ok xW (λvs H Q E h=>?_) (λbp A Z s H vs Q E S h=>?_)
 ·obtain⟨t,M,oc,u,n,c,k,rows,j,rfl,_⟩:=h
  rfl
 ·obtain⟨t,M,oc,u,n,c,k,rows,j,rfl,h1,h2,jN,hu,hl,q⟩:=h;have hn:=h1.2.1.size;have hr7:aS 7 _:=S.mono 'c';have zu:aS 15 _:=S.mono 'c';have OE:aS (n+4) _:=S.mono 'a';refine aO ⟨_,⟨ip (bZ GW S hW FW.kp bW (aD (pv 0) (aD (pv 1) aH)))⟩,?_⟩;refine aO ⟨_,⟨eI 3 xW.nd (xw5 ML GI hr7 'd' N.NL bI .nil tU (cw.go (.cons ⟨cO gb (pv 0) aR⟩ (.cons ⟨cO gb (pv 1) aR⟩ (.cons ⟨pv 2⟩ .nil rfl) rfl) rfl)))⟩,?_⟩;refine fV ⟨_,⟨cj (bZ GS zu hS FS.kp bS (cw.go (.cons ⟨cO gb (pv 0) aR⟩ (.cons ⟨AI (pv 3) N.cl MN (GL n) OE bL .nil tU (cw.go (.cons ⟨cO gb (pv 0) aR⟩ (.cons ⟨cO gb (pv 1) aR⟩ .nil rfl) rfl))⟩ (.cons ⟨ju (ju (pv 3) rfl) rfl⟩ .nil rfl) rfl) rfl)))⟩,?_⟩;refine⟨_,rfl,_,rfl,t,M,n,c,k,rows,j,rfl,h1,h2,λv s1=>?_⟩;have Hk:=mm h1 s1;have sf:=mm h2 s1;obtain⟨⟨rp,kU,kI⟩,a,vO⟩:=id Hk;obtain⟨⟨op,vF,jX⟩,m,jR⟩:=id sf;refine⟨_,rfl,t,_,2,.ref rp,rfl,rfl,aQ.of kU,rfl,_,rfl,M,_,2,.ref op,rfl,rfl,aQ.of vF,rfl,_,rfl,?_⟩;intro p B hp vU hne2;have R:aC v (upd (upd v B (.own p)) p (.ins C B [])):=λx o e=>by rw[bo (ck e hp),bo (ck e vU)];exact e
  have N1:∀x,upd (upd v B (.own p)) p (.ins C B []) x=none->v x=none:=λx e=>R.free e;refine⟨p,B,rp,op,oc,rows,j,rfl,aX,kI.same R,jX.same R,a.gA,m.gA,a.dF,m.dF,by lia,λb kk dd w1 w2 g G L H3 hb Pg wN hg I Qe B3=>⟨rfl,?_⟩⟩;have S3:aC v H3:=λx o e=>B3 _ _ (R _ _ e) (ck e hp);have Es:=S3 _ _ kU;have OA:=S3 _ _ vF;obtain⟨⟨Fz,OX⟩,_⟩:=id I;refine⟨_,rfl,t,_,0,.int (n:Nat),rfl,rfl,aQ.of Es,rfl,?_⟩;refine⟨_,rfl,p,Fz,_,rfl,OX,Sh _ _ _ _ _ _ _,_,rfl,t,_,1,.int (c:Nat),rfl,rfl,aQ.of Es,rfl,_,rfl,M,_,1,.int (k:Nat),rfl,rfl,aQ.of OA,rfl,?_⟩;refine⟨p,rp,op,oc,b,kk,dd,w1,w2,g,G,u,c,k,L,L,[],rows,j,rfl,I,jN,hu,a.gA,m.gA,a.dF,m.dF,a.gp,m.gp,a.deep,lZ.nil,by lia,λH4 r Ed B4 Fl hx4 U wF=>?_⟩;have S4:aC v H4:=λx o e=>B4 _ _ (S3 _ _ e) (ck e (N1 _ Pg)) (ck e (N1 _ wN)) (ck e (N1 _ hg));obtain⟨⟨dx4,OW⟩,⟨⟨Fy,hb4⟩,Pk,kY,l⟩,_⟩:=id Fl;have hred:Tr.Red (cV u (T rows c) (T j k)):=AN u _ _ (Uy a) (Uy m);have PU:Tr.dep (cV u (T rows c) (T j k))<=n:=CN u n _ _ (MU a) (MU m);refine⟨_,rfl,p,C,dx4,_,_,rfl,OW,N.cl,N.nB,Si _ _ _ _ _ _ _,b,O,Fy,_,_,rfl,hb4,TB.cl,TB.nK,LF _ _,?_⟩;have W:Tr.name r (cV u (T rows c) (T j k))<(Tr.rowsOf r).length+2:=by
   rw[Tr.bc];rcases Tr.dH l U with⟨_,e⟩|⟨_,e⟩|⟨i,hi,e⟩
   ·lia
   ·lia
   ·have:=(cx hi).1;lia
  have j7:=wF.len l;have Fh:(Tr.rowsOf r).length<=1190900:=by rw[Tr.bc];lia
  have zG:dp (Tr.rowsOf r) (Tr.name r (cV u (T rows c) (T j k)))<=n:=by rw[Ay l _ U];exact PU
  have zx:=Tr.hV l;obtain⟨V,hT2⟩:=q29 (n:=n) hn zx W zG (qD5 l Fl.rd) (Tr.gN l);have jY:=CM (pU zx n [] _ (vg _) W zG).1;obtain⟨Y,wB,P2,oP⟩:=Pk;refine⟨kk,n,_,Tr.rowsOf r,rfl,⟨Y,.inr wB,P2,oP⟩,zx,Fh,W,hn,zG,λH5 t5 s5 D=>?_⟩;exact q H5 t5 _ _ (s1.trans (S4.trans s5)) ⟨D,V,by rw[nH];lia⟩ (hT2.trans (C4 l _ U)) (by rw[nH];rw[Tr.bc]at jY;lia)
def uQ(u:Nat->Nat->Nat):Sp:=λh H Q _=>∃(t d:ae)(n g c:Nat)(rows a:List Row),h=[.ref t,.ref d]/\gO H t n g rows/\gO H d n c a/\2*rows.length+2*a.length+rows.length*a.length<=1190890 /\
 ∀(b:Hp)(f:ae)(e:Nat)(rws:List Row),aC H b->Il b f n e rws->T rws e=cV u (T rows g) (T a c)->rws.length<=1190890->Q (.ref f) b
def un(a b c d:Nat):Nat->Nat->Nat:=λi j=>if i=0 then(if j=0 then a else b)else(if j=0 then c else d)
theorem Gw{a b c d:Nat}(h:a<2/\b<2/\c<2/\d<2):Oc (un a b c d):=λi j=>by
 unfold un;obtain⟨h1,h2,e,f⟩:=h;split<;>split<;>assumption
end
inductive sN(A B:Hp->Prop)(ok:Prop)(H:Hp)(d d2:PyData):Prop
 |no (h:¬(fw d/\fw d2)) (e:∀H',aC H H'->A H')
 |pZ (n m tp bu:Nat) (rows aN:List Row) (e1:d=oo n tp rows) (c1:Canon n tp rows) (e2:d2=oo m bu aN) (c2:Canon m bu aN) (h:n≠m) (e:∀H',aC H H'->B H')
 |yes (h:ok)
theorem sN.imp{A B:Hp->Prop}{ok a:Prop}{H:Hp}{d d2:PyData}(T:sN A B ok H d d2)(f:ok->a):sN A B a H d d2:=by
 cases T with
 |no h e=>exact .no h e
 |pZ n m j k rows g i b c l h e=>exact .pZ n m j k rows g i b c l h e
 |yes h=>exact .yes (f h)
abbrev uC(a b:ae)(ok:Prop)(H:Hp)(d d2:PyData)(E:XK):Prop:=sN (E (.ref a) none) (E (.ref b) none) ok H d d2
theorem xD6{H:Hp}{t t':ae}{n m tp b:Nat}{rows c:List Row}(h:cD H t n tp rows)(h':cD H t' m b c):∃p a,H t=some (.tup [.int (n:Nat),.int (tp:Nat),.ref p])/\H t'=some (.tup [.int (m:Nat),.int (b:Nat),.ref a]):=by
 obtain⟨p,h1,_⟩:=h;obtain⟨a,h2,_⟩:=h';exact⟨p,a,h1,h2⟩
section
variable{mg:aq->Option aa}{base:ao}
inductive xG(CS CO:ae)(vs:List V)(H:Hp)(Q:VK)(E:XK):Prop
 |mk(v v2:V)(d d2:PyData)(e0:vs=[v,v2])(e1:aV H v d)(e2:g9 d)(e3:aV H v2 d2)(e4:g9 d2)(e5:uC CS CO False H d d2 E)
def BK(b a:ae):Sp:=λc H Q E=>xG b a c H Q E
theorem xL0{f D L l:ae}{fd y:ai}(F:aP K "want_one_floor" "want_one_floor" uT f fd)(hC:mg "OtherFloor"=some (.ref l))(hx:PySem.W.excIn K l FI "ValueError.__new__"=true)
  (X:mg "want_shape"=some (.ref D)) (M:aP K "want_shape" "want_shape" uU D y) (T:Binds K y ["shape"] []) (N:aB P w K mg base (fc P w) 16 D y ["shape"] (Hr L)):
  aB P w K mg base (fc P w) 17 f fd ["one","other"] (BK L l):=by
 refine F.gf Cn (λvs H Q E h=>?_) (λbp A r s H vs Q E S h=>?_)
 ·obtain⟨v,J,d,C,rfl,_⟩:=h
  rfl
 ·obtain⟨v,J,d,C,rfl,b,j,q,R,B⟩:=h;refine aO ⟨_,⟨ip (jw N S 'd' X M.kp T .nil lH (aD (pv 0) aH))⟩,?_⟩;by_cases a:fw d
  rotate_left
  ·refine⟨_,m8,_,rfl,v,d,rfl,b,j,λz=>absurd z a,λ_=>?_⟩;cases B with
   |no h e=>exact e
   |pZ n m Y Z rows O g k c x h e=>exact absurd ⟨_,_,_,g,k⟩ a
   |yes h=>exact h.elim
  refine aO ⟨_,⟨ip (jw N S 'd' X M.kp T .nil lH (aD (pv 1) aH))⟩,?_⟩;by_cases i:fw C
  rotate_left
  ·refine⟨_,m8,_,rfl,v,d,rfl,b,j,λ_ H1 W=>?_,λz=>absurd a z⟩;refine⟨_,rfl,J,C,rfl,q.same W,R,λz=>absurd z i,λ_ G t2=>?_⟩;cases B with
   |no h e=>exact e G (W.trans t2)
   |pZ n m Y Z rows O g k c x h e=>exact absurd ⟨_,_,_,c,x⟩ i
   |yes h=>exact h.elim
  refine fV ⟨_,⟨c9 (dI qH (cO gb (pv 0) aR) (cO gb (pv 1) aR) (cP _)) (cm (Ug 'd' hC hx rfl VT (aD nE aH))) c_⟩,?_⟩;cases B with
  |no h e=>exact absurd ⟨a,i⟩ h
  |yes h=>exact h.elim
  |pZ n m Y Z rows O g k c x h e=>
   subst g c;obtain⟨t,rfl,hT⟩:=Mw b;obtain⟨I,rfl,P8⟩:=Mw q;refine⟨_,rfl,.ref t,_,rfl,b,j,λ_ H1 U=>?_,λz=>absurd a z⟩;refine⟨_,rfl,.ref I,_,rfl,q.same U,R,λ_ G u2=>?_,λz=>absurd i z⟩;have u:=U.trans u2;obtain⟨p,p',h1,h2⟩:=xD6 (hT.mono u.cC) (P8.mono u.cC);refine⟨_,rfl,t,_,0,.int (n:Nat),rfl,rfl,aQ.of h1,rfl,_,rfl,I,_,0,.int (m:Nat),rfl,rfl,aQ.of h2,rfl,rfl,_,rfl,?_⟩;rw[Zy (show ¬V.int (n:Nat)=V.int (m:Nat)from λz=>h (by have:=V.int.inj z;lia))];exact cB ⟨by decide,e G u⟩
end
end Pr
namespace Qf
open Tr
def vm:Nat->Tr->Nat->Nat->Bool
 |0,t,_,_=>decide (t=.o)
 |k+1,t,r,c=>vm k (qr (2*(r/2^k%2)+c/2^k%2) t) r c
theorem Sg:∀k r c,vm k .o r c=true
 |0,_,_=>rfl
 |k+1,r,c=>Sg k r c
theorem xh8{k r c R C a:Nat}{t:Tr}(d:a<4)(b:r/2^k=2*R+a/2)(hc:c/2^k=2*C+a%2):vm (k+1) t r c=vm k (qr a t) r c:=by
 show vm k (qr (2*(r/2^k%2)+c/2^k%2) t) r c=_;rw[b,hc,show 2*((2*R+a/2)%2)+(2*C+a%2)%2=a by lia]
def fi:Tr->Nat
 |.nd a b c _=>if a=.z then(if b=.z then(if c=.z then 3 else 2)else 1)else 0
 |_=>0
def sF:Nat->Tr->Nat×Nat
 |k+1,.nd a b c d=>(2^k*(fi (.nd a b c d)/2)+(sF k (qr (fi (.nd a b c d)) (.nd a b c d))).1,2^k*(fi (.nd a b c d)%2)+(sF k (qr (fi (.nd a b c d)) (.nd a b c d))).2)
 |_,_=>(0,0)
theorem xD7:∀k,sF k .o=(0,0)
 |0=>rfl
 |_+1=>rfl
theorem Sf{k r R a:Nat}(b:a<2)(h:r/2^k=2*R+a):r/2^(k+1)=R:=by
 rw[YZ,<- Nat.div_div_eq_div_mul,h];lia
theorem IC{rows:List Row}(ok:cz rows){x:Nat}(e:x<rows.length+2):T rows x=.z<->x=0:=by
 refine⟨λh=>?_,λh=>by rw[h,iP]⟩;by_cases z:x<2
 ·have:x=0\/x=1:=by lia
  rcases this with rfl|rfl
  ·rfl
  ·rw[iH]at h;cases h
 ·obtain⟨p,a,b,c,d,rfl,f⟩:=mj ok e z;rw[km ok f]at h;cases h
theorem q34{a b c d:Nat}(h:¬(a=0/\b=0/\c=0/\d=0)):∃j y,j=(if a=0 then(if b=0 then(if c=0 then 3 else 2)else 1)else 0)/\j<4/\[a,b,c,d][j]?=some y/\y≠0/\([a,b,c,d].map λy=>!decide (y=0))[j]?=some true/\∀m,m<j->([a,b,c,d].map λy=>!decide (y=0))[m]?=some false:=by
 by_cases e:a=0
 ·by_cases hb:b=0
  ·by_cases g:c=0
   ·have i:d≠0:=λz=>h ⟨e,hb,g,z⟩;refine⟨3,d,by rw[Zr e,Zr hb,Zr g],by decide,rfl,i,by simp[i],λm f=>?_⟩
    match m,f with
    |0,_=>simp[e]
    |1,_=>simp[hb]
    |2,_=>simp[g]
   ·refine⟨2,c,by rw[Zr e,Zr hb,Zi g],by decide,rfl,g,by simp[g],λm f=>?_⟩
    match m,f with
    |0,_=>simp[e]
    |1,_=>simp[hb]
  ·refine⟨1,b,by rw[Zr e,Zi hb],by decide,rfl,hb,by simp[hb],λm f=>?_⟩
   match m,f with
   |0,_=>simp[e]
 ·exact⟨0,a,by rw[Zi e],by decide,rfl,e,by simp[e],λm f=>absurd f (Yi _)⟩
theorem QT{j:Nat}(h:j<4):PySem.Builtin.bitAnd ((j:Nat):Int) 1=((j%2:Nat):Int):=by
 match j,h with
 |0,_=>decide +kernel
 |1,_=>decide +kernel
 |2,_=>decide +kernel
 |3,_=>decide +kernel
end Qf
namespace Pr
open PySem L2 Qf
section
variable{mg:aq->Option aa}{base:ao}
theorem xq7(y:Nat):V.int ((y:Nat):Int)=V.int 0<->y=0:=⟨λh=>by injection h with h;lia,λh=>by rw[h];rfl⟩
theorem xL1:aE ["n"] ["n"] (cg GZ):=cZ
def RE:Sp:=λa H Q _=>∃n:Nat,a=[.int (n:Nat)]/\n<=100/\Q (.int ((2^n:Nat):Nat)) H
theorem xD8{f:ae}{b:ai}(F:aP K "side_of" "side_of" GZ f b):aB P w K mg base aJ 1 f b ["n"] RE:=by
 refine F.ok xL1 (λc H Q E h=>?_) (λe A a s H c Q E d h=>?_)
 ·obtain⟨n,rfl,_⟩:=h
  rfl
 ·obtain⟨n,rfl,h1,q⟩:=h;refine fV ⟨_,⟨cj (cy xF8 aR (pv 0))⟩,?_⟩;refine⟨_,rfl,_,_,rfl,rfl,⟨by lia,by lia,by decide⟩,?_⟩;show Q (V.int (1*2^((n:Nat):Int).toNat)) H;rw[Int.one_mul,YU,show((2:Int)^n)=((2^n:Nat):Int) by norm_cast];exact q
theorem xL2:aE ["one","other"] ["one","other"] (cg Ka):=cZ
abbrev nSF:List aq:=["shape","n","number","rows","row","column","side","quarters","at"]
theorem gL:aE nSF ["shape"] (cg CT):=cZ
def xI:Sp:=λe H Q _=>∃(t:ae)(n a:Nat)(rows:List Row),e=[.ref t]/\Il H t n a rows/\(T rows a=.z->Q .cA H) /\
 (T rows a≠.z->∀(d:Hp)(c:ae)(r b:Nat),aC H d->d c=some (.tup [.int (r:Nat),.int (b:Nat)])->(r,b)=sF n (T rows a)->r<2^n->b<2^n->vm n (T rows a) r b=true->Q (.ref c) d)
theorem xQ7{f fS:ae}{fd dz:ai}(F:aP K "some_full_cell" "some_full_cell" CT f fd)(Tc:lh mg)(jT:∃t,mg "EMPTY"=some (.int 0 t))(hS:mg "side_of"=some (.ref fS))(FS:aP K "side_of" "side_of" GZ fS dz)(bS:Binds K dz ["n"] []):
  aB P w K mg base aJ 2 f fd ["shape"] xI:=by
 have GS:aB P w K mg base aJ 1 fS dz ["n"] RE:=xD8 FS;obtain⟨te,wK⟩:=jT;obtain⟨tf,W⟩:=Tc.first;refine F.ok gL (λvs H Q E h=>?_) (λbp A outer s H vs Q E Y h=>?_)
 ·obtain⟨t,n,B,rows,rfl,_⟩:=h
  rfl
 ·obtain⟨t,n,B,rows,rfl,Bq,qz,q⟩:=h;refine aO ⟨_,⟨m6 (pv 0) (pR rfl (e_ (dj 1 gL.nd) (e_ (dj 2 gL.nd) (e_ (dj 3 gL.nd) oz))))⟩,?_⟩;refine aO ⟨_,⟨c9 (dI mY (pv 2) (cX (v:=.int 0) 'd' wK ⟨_,rfl⟩) (cP _)) (cm (cj De)) c_⟩,?_⟩;refine aO ⟨_,⟨xz0 aR (dj 4 gL.nd) (dj 5 gL.nd)⟩,?_⟩;refine aO ⟨_,⟨eI 6 gL.nd (bZ GS Y hS FS.kp bS (aD (pv 1) aH))⟩,?_⟩;refine aO ⟨_,⟨xj4 Yj (dI Ti (pv 2) (cX (v:=.int 2) 'd' W ⟨_,rfl⟩) (cP _))
   (oW.go (.cons ⟨eI 6 gL.nd (cy IV (pv 6) aR)⟩
   (.cons ⟨eI 7 gL.nd (cO gb (pv 3) (cy pQ (pv 2) (cX (v:=.int 2) 'd' W ⟨_,rfl⟩)))⟩
   (.cons ⟨eI 8 gL.nd (df.go ⟨vo Ye PySem.F.slot_list_index PySem.F.type_list_index q98 (oB nSF (cg CT) rfl rfl rfl gL.nd (vt K rfl (pv 7)) (λcl C fp aG aK=>oy qH (pv 0) (cX (v:=.int 0) 'd' wK ⟨_,rfl⟩) (cP _))) (aD js aH)⟩)⟩
   (.cons ⟨R9 (i:=4) gL.nd rfl (by first|left;rfl|right;rfl) (cy pP (pv 6) (cy IV (pv 8) aR)) V6⟩
   (.cons ⟨R9 (i:=5) gL.nd rfl (by first|left;rfl|right;rfl) (cy pP (pv 6) (cy xF9 (pv 8) aR)) V6⟩
   (.one ⟨eI 2 gL.nd (cO gb (pv 7) (pv 8))⟩)))))))⟩,?_⟩
  refine fV ⟨_,⟨cj (kq (aD (pv 4) (aD (pv 5) aH)))⟩,?_⟩;obtain⟨⟨rp,ht,hR⟩,g,Jp⟩:=id Bq;refine⟨_,rfl,t,_,rfl,aQ.of ht,rfl,_,_,rfl,_,_,rfl,_,_,rfl,rfl,?_⟩;refine⟨_,rfl,rfl,_,rfl,?_⟩;refine dD (λp=>?_) (λp=>?_)
  ·have e0:B=0:=by
    have:=ZI p;injection this with this
    lia
   exact qz ((IC g.gA g.gp).mpr e0)
  have L:T rows B≠.z:=λz=>p (by
   rw[(IC g.gA g.gp).mp z]
   rfl)
  have hn12:=g.size;refine⟨_,rfl,n,rfl,by lia,?_⟩;refine⟨λm σ H2=>∃(x k R C:Nat)(v7 v8:Option V),m=x/\σ=[some (.ref t),some (.int (n:Nat)),some (.int (x:Nat)),some (.ref rp),some (.int ((2^k*R:Nat):Nat)),some (.int ((2^k*C:Nat):Nat)),some (.int ((2^k:Nat):Nat)),v7,v8]/\x<rows.length+2/\T rows x≠.z/\Tr.dep (T rows x)<=k/\R<2^(n-k)/\C<2^(n-k)/\(∀r c,r/2^k=R->c/2^k=C->vm n (T rows B) r c=vm k (T rows x) r c)/\(2^k*R+(sF k (T rows x)).1,2^k*C+(sF k (T rows x)).2)=sF n (T rows B)/\k<=n/\aC H H2,⟨_,B,n,0,0,none,none,rfl,rfl,g.gp,L,?_,?_,?_,λr c _ _=>rfl,(by rw[Nat.mul_zero,Xn,Xn]),Zg _,aC.refl _⟩,?_⟩
  ·exact MU g
  ·exact Vj 'c'
  ·exact Vj 'c'
  rintro m σ H2 ⟨x,k,R,C,v7,v8,hm,rfl,hx,hxz,Ol,kI,hC1,j9,PF,hk12,s2⟩;refine⟨_,rfl,_,_,rfl,rfl,_,rfl,?_⟩;refine dD (λp=>?_) (λp=>?_)
  ·have yF:¬x<2:=by have:=ZI p;lia
   obtain⟨l,I,J,G,O,rfl,u⟩:=mj g.gA hx yF;have P7:=km g.gA u;obtain⟨bs,vY,wO,jA⟩:=id (hR.same s2);have w4:=(cx u).1;have wU:bs[l]?=some (bs[l]'(by lia)):=Zd 'a';have Z:=jA l _ _ wU u;have hup:=g.dF _ (Zo u);obtain⟨j,y,hje,N,Pl,Jf,hjt,hjf⟩:=q34 (a:=I) (b:=J) (c:=G) (d:=O) (λz=>hup (.inl (by rw[z.1,z.2.1,z.2.2.1,z.2.2.2])));obtain⟨e,rfl⟩:∃e,k=e+1:=by
    cases k with
    |zero=>rw[P7]at Ol;exact absurd Ol (by show ¬1+_<=0;lia)
    |succ e=>exact⟨e,rfl⟩
   have P6:=FZ g.gA u N Pl;have hyl:=(g.gA l _ u).2 _ (Zo Pl);refine⟨_,λ_ _ h=>h,?_⟩;refine⟨_,rfl,_,_,rfl,rfl,⟨by decide,by decide⟩,?_⟩;have e1:(((2^(e+1):Nat):Nat):Int)/2=((2^e:Nat):Int):=by
    rw[YZ];lia
   simp only[e1];refine⟨_,rfl,_,rfl,_,_,rfl,rfl,rp,_,((l:Nat):Int),.ref (bs[l]'(by lia)),rfl,Yo V.int 'a',aQ.of vY,kr (by rw[Zf,wU];rfl),?_⟩;refine⟨_,rfl,bs[l]'(by lia),rfl,⟨_,aQ.of Z⟩,λD hD=>oG hD (λi z _=>∃y:Nat,[I,J,G,O][i]?=some y/\z=.bl (!decide (y=0))) (pA (K:=K) Z) (by rw[dM];show 4<sizeLine;decide) (λ_ _ _ _ _ _ h=>h) ?_ ?_⟩
   ·intro i v H3 hi hv s3 Q' hq;obtain⟨M,El,rfl⟩:=mZ hv;refine⟨_,rfl,rfl,hq _ _ (aC.refl _) ⟨M,El,?_⟩⟩;show V.bl (!decide (V.int ((M:Nat):Int)=V.int 0))=V.bl (!decide (M=0));rw[decide_eq_decide.mpr (xq7 M)]
   ·intro ys H3 s3 vB jU jS;have ey:ys=([I,J,G,O].map λy=>!decide (y=0)).map V.bl:=by
     refine pz (by rw[jU];rfl) λi v hv=>?_;obtain⟨M,El,rfl⟩:=jS i v hv;rw[Zf,Zf,El]
     rfl
    subst ey;refine⟨.inl ⟨rfl,_,bY.of vB⟩,D,_,j,rfl,rfl,vB,hjt,hjf,by lia,?_⟩;have OO:(2:Nat)^e<=4096:=ZN (Nat.pow_le_pow_right 'c' (show e<=12 by lia)) 'c';have c1:(0:Int)<=((2^e:Nat):Int):=W8 _;have c2:((2^e:Nat):Int)<=4096:=Int.ofNat_le.mpr OO;refine⟨_,rfl,_,rfl,_,rfl,_,_,rfl,rfl,⟨by decide,by decide⟩,_,_,rfl,rfl,.inl ⟨by lia,by lia⟩,_,_,rfl,rfl,?_⟩;refine⟨_,rfl,_,rfl,_,rfl,_,_,rfl,rfl,_,_,rfl,rfl,.inl ⟨by lia,by lia⟩,_,_,rfl,rfl,?_⟩;refine⟨_,rfl,_,rfl,bs[l]'(by lia),_,((j:Nat):Int),.int (y:Nat),rfl,rfl,aQ.of (s3 _ _ Z),sj Pl,?_⟩;have S:∀X a,2^(e+1)*X+2^e*a=2^e*(2*X+a):=λX a=>by
     rw[YZ,WM,XI]
    have eR:((2^(e+1)*R:Nat):Int)+((2^e:Nat):Int)*(((j:Nat):Int)/2)=((2^e*(2*R+j/2):Nat):Int):=by
     rw[<- S,Int.natCast_add,Int.natCast_mul (2^e) (j/2),Int.natCast_ediv]
     rfl
    have eC:((2^(e+1)*C:Nat):Int)+((2^e:Nat):Int)*PySem.Builtin.bitAnd ((j:Nat):Int) 1=((2^e*(2*C+j%2):Nat):Int):=by
     rw[QT N,<- S,Int.natCast_add,Int.natCast_mul (2^e) (j%2)]
    have np:2^(n-e)=2*2^(n-(e+1)):=by
     rw[show n-e=(n-(e+1))+1 by lia,YZ,Vq]
    refine⟨y,by lia,y,e,2*R+j/2,2*C+j%2,some (.ref (bs[l]'(by lia))),some (.int (j:Nat)),rfl,?_,by lia,?_,?_,?_,?_,?_,?_,by lia,s2.trans s3⟩
    ·rw[<- eR,<- eC]
     rfl
    ·exact λz=>Jf ((IC g.gA 'a').mp z)
    ·rw[P6];exact xJ8 N _ Ol
    ·rw[np];lia
    ·rw[np];lia
    ·intro r c Y p;have h1:=Sf (show j/2<2 by lia) Y;have h2:=Sf (show j%2<2 by lia) p;rw[j9 r c h1 h2,P6];exact xh8 N Y p
    ·have qb:=λz (hz:z∈[I,J,G,O])=>IC g.gA (x:=z) (ZJ ((g.gA l _ u).2 z hz) 'a');have W:fi (T rows (l+2))=j:=by
      rw[P7,hje];show(if T rows I=.z then(if T rows J=.z then(if T rows G=.z then 3 else 2)else 1)else 0)=_;simp only[qb I 'b',qb J 'b',qb G 'b']
     have kK:sF (e+1) (T rows (l+2))=(2^e*(j/2)+(sF e (T rows y)).1,2^e*(j%2)+(sF e (T rows y)).2):=by
      rw[P6,<- W,P7]
      rfl
     rw[<- PF,kK];have m1:=S R (j/2);have m2:=S C (j%2);refine Prod.ext ?_ ?_
     ·show 2^e*(2*R+j/2)+_=2^(e+1)*R+(2^e*(j/2)+_);rw[<- m1,Nat.add_assoc]
     ·show 2^e*(2*C+j%2)+_=2^(e+1)*C+(2^e*(j%2)+_);rw[<- m2,Nat.add_assoc]
  ·have yG:x=1:=by
    have:¬((2:Int)<=(x:Int)):=λz=>p (Zq z);have h0:x≠0:=λz=>hxz (by rw[z,iP]);lia
   subst yG;refine⟨_,rfl,_,rfl,(by show 2<=sizeLine;decide),λc hcn=>?_⟩;have U:=bF (o:=.tup [V.int ((2^k*R:Nat):Nat),V.int ((2^k*C:Nat):Nat)]) hcn;have up:∀X,X<2^(n-k)->2^k*X<2^n:=λX h=>by
    rw[show n=k+(n-k) by lia,Nat.pow_add];exact Nat.mul_lt_mul_of_pos_left h (Vj 'c')
   refine q L _ c _ _ (s2.trans U) aX (by rw[<- PF,iH,xD7];rfl) (up _ kI) (up _ hC1) ?_;rw[j9 _ _ (Nat.mul_div_cancel_left _ (Vj 'c')) (Nat.mul_div_cancel_left _ (Vj 'c')),iH,Sg]
theorem xL3:aE ["one","other"] ["one","other"] (cg MH):=cZ
end
end Pr
namespace Qf
open Tr
def kd(rows:List Row)(x i:Nat):Nat:=(rows.getD (x-2) []).getD i 0
theorem K1{rows:List Row}{p:Nat}{r:Row}(h:rows[p]?=some r)(i:Nat):kd rows (p+2) i=r.getD i 0:=by
 unfold kd;have:rows.getD p []=r:=by rw[Zt,h];rfl
 rw[Wr,this]
theorem SQ{rows:List Row}(ok:cz rows){x i:Nat}(h:x<rows.length+2)(h2:2<=x)(f:i<4):kd rows x i<rows.length+2/\T rows (kd rows x i)=qr i (T rows x):=by
 obtain⟨p,a,b,c,d,rfl,e⟩:=mj ok h 'a';have j:=(cx e).1;have g:[a,b,c,d][i]?=some ([a,b,c,d].getD i 0):=by
  rw[Zt,Zd (show i<[a,b,c,d].length from f)]
  rfl
 rw[K1 e];have:=(ok p _ e).2 _ (Zo g);exact⟨by lia,FZ ok e f g⟩
inductive rS(R1 R2:List Row)(t1 t2:Nat):Nat->Nat->Prop
 |base:rS R1 R2 t1 t2 t1 t2
 |step {x y i:Nat}(h:rS R1 R2 t1 t2 x y) (hx:2<=x) (hy:2<=y) (hi:i<4):rS R1 R2 t1 t2 (kd R1 x i) (kd R2 y i)
theorem rS.lt{a R2:List Row}{c e x y:Nat}(j:cz a)(g:cz R2)(h1:c<a.length+2)(h2:e<R2.length+2)(h:rS a R2 c e x y):x<a.length+2/\y<R2.length+2:=by
 induction h with
 |base=>exact⟨h1,h2⟩
 |step _ f i b d=>exact⟨(SQ j d.1 f b).1,(SQ g d.2 i b).1⟩
def Cnt(c R2:List Row)(a b m:Nat):Prop:=∃L:List (Nat×Nat),L.Nodup/\(∀x y,(x,y)∈L<->rS c R2 a b x y/\2<=x/\2<=y)/\L.length=m
end Qf
namespace Pr
open PySem L2 Qf
abbrev KS(kv:List (List Key×V)):List (List Key):=kv.map (·.1)
structure PK(R1 R2:List Row)(t1 t2:Nat)(kv:List (List Key×V)):Prop where
 nd:(KS kv).Nodup
 rc:∀k∈KS kv,∃x y,rS R1 R2 t1 t2 x y/\2<=x/\2<=y/\k=aU [x,y]
def Ar(a R2:List Row)(kv kv':List (List Key×V)):Prop:=∀x y,aU [x,y]∈KS kv'->aU [x,y]∉KS kv->∀i,i<4->2<=kd a x i->2<=kd R2 y i->aU [kd a x i,kd R2 y i]∈KS kv'
theorem PK.len{a R2:List Row}{b c:Nat}{kv:List (List Key×V)}(i:cz a)(d:cz R2)(h1:b<a.length+2)(h2:c<R2.length+2)(h:PK a R2 b c kv):kv.length<=a.length*R2.length:=by
 have:=Qw (L0:=[]) (r1:=a.length) (r2:=R2.length) (f:=λx y=>aU [x+2,y+2]) h.nd λk g=>by
  obtain⟨x,y,e,l,p,rfl⟩:=h.rc k g;obtain⟨j,m⟩:=e.lt i d h1 h2;exact .inr ⟨x-2,y-2,by lia,by lia,by rw[show x-2+2=x by lia,show y-2+2=y by lia]⟩
 rw[Ze]at this;simpa using this
theorem PK.put{f R2:List Row}{c d x y:Nat}{kv:List (List Key×V)}{v:V}(h:PK f R2 c d kv)(p:br kv (aU [x,y])=none)(m:rS f R2 c d x y)(i:2<=x)(q:2<=y):PK f R2 c d (kv++[(aU [x,y],v)]):=by
 have e:KS (kv++[(aU [x,y],v)])=KS kv++[aU [x,y]]:=by show List.map _ _=_;rw[ZW];rfl
 refine⟨?_,λk g=>?_⟩
 ·rw[e,Yk];refine⟨h.nd,by simp,λa j b hb l=>?_⟩;have:b=aU [x,y]:=by simpa using hb
  exact Us p (by rw[<- this,<- l];exact j)
 ·rw[e]at g;rcases Z8.mp g with z|z
  ·exact h.rc k z
  ·have:k=aU [x,y]:=by simpa using z
   exact⟨x,y,m,i,q,this⟩
theorem xi0{kv:List (List Key×V)}{k:List Key}{v:V}(h:br kv k=some v):k∈KS kv:=by
 unfold br at h;obtain⟨p,a,_⟩:=Zp.mp h;have h1:=List.mem_of_find?_eq_some a;have h2:=List.find?_some a;exact ZV.mpr ⟨p,h1,by simpa using h2⟩
theorem PK.cnt{j R2:List Row}{g i:Nat}{kv:List (List Key×V)}(h:PK j R2 g i kv)(h0:g<2\/i<2\/aU [g,i]∈KS kv)(hc:Ar j R2 [] kv):Cnt j R2 g i kv.length:=by
 have all:∀{x y},rS j R2 g i x y->2<=x->2<=y->aU [x,y]∈KS kv:=λ{x y} f=>by
  induction f with
  |base=>intro c d;rcases h0 with h|h|h;lia;lia;exact h
  |step _ c d A B=>intro u w;exact hc _ _ (B c d) (by simp[KS]) _ A u w
 let un:List Key->Nat×Nat:=λk=>match k with
  |[Sum.inl a,Sum.inl b]=>(a.toNat,b.toNat)
  |_=>(0,0)
 have l:∀x y:Nat,un (aU [x,y])=(x,y):=λx y=>rfl;refine⟨(KS kv).map un,?_,λx y=>⟨λp=>?_,λ⟨f,c,d⟩=>?_⟩,by simp[KS]⟩
 ·refine(List.pairwise_map.mpr ?_);refine List.Pairwise.imp_of_mem ?_ h.nd;intro a b C hb v m;obtain⟨x,y,_,_,_,rfl⟩:=h.rc a C;obtain⟨s,r,_,_,_,rfl⟩:=h.rc b hb;rw[l,l]at m;injection m with z1 z2
  exact v (by rw[z1,z2])
 ·obtain⟨k,q,e⟩:=ZV.mp p;obtain⟨s,r,f,c,d,rfl⟩:=h.rc k q;rw[l]at e;injection e with z1 z2
  rw[<- z1,<- z2];exact⟨f,c,d⟩
 ·exact ZV.mpr ⟨_,all f c d,l x y⟩
section
variable{mg:aq->Option aa}{base:ao}
abbrev nGP:List aq:=["rows","other_rows","pair","found","number","other","below"]
abbrev qV:List aq:=["rows","other_rows","pair","found"]
theorem nr:aE nGP qV (cg IH):=cZ
def xP(d:Nat):Sp:=λm H Q _=>∃(j i l f:ae)(e g x y:Nat)(b R2:List Row)(c:List (List Key×V)),m=[.ref j,.ref i,.ref l,.ref f]/\bq H j b/\bq H i R2/\cz b/\cz R2/\e<b.length+2/\g<R2.length+2/\b.length*R2.length<=1000000/\H l=some (.tup (vN [x,y]))/\H f=some (.dT c)/\dp b x<=d/\rS b R2 e g x y/\PK b R2 e g c /\
 ∀(h:Hp)(a:List (List Key×V)),bJ f H h->h f=some (.dT a)->(∀k∈KS c,k∈KS a)->PK b R2 e g a->(x<2\/y<2\/aU [x,y]∈KS a)->Ar b R2 c a->Q .cA h
theorem xQ8{f:ae}{fd:ai}(F:aP K "gather_pairs" "gather_pairs" IH f fd)(Tc:lh mg)(pF:mg "zip"=none)(hG:mg "gather_pairs"=some (.ref f))(bG:Binds K fd qV []):∀d,aB P w K mg base aJ (d+1) f fd qV (xP d):=by
 obtain⟨tf,T⟩:=Tc.first;intro d
 induction d with
 |zero=>
  refine F.ok nr (λvs H Q E h=>?_) (λbp A I s H vs Q E hr h=>?_)
  ·obtain⟨Z,S,J,g,Y,W,x,y,r,R2,l,rfl,_⟩:=h
   rfl
  ·obtain⟨Z,S,J,g,Y,W,x,y,r,R2,l,rfl,kI,jX,D,X,kU,vF,hN,w4,M,vU,Ey,ED,q⟩:=h;have hu:A.units+3+1<cLine:=by
    have h2:A.units+3+16*0+200<cLine:=hr.un;lia
   obtain⟨lx,ly⟩:=Ey.lt D X kU vF;have x2:=uS D lx vU;refine aO ⟨_,⟨m6 (pv 2) (pR rfl (e_ (dj 4 nr.nd) (e_ (dj 5 nr.nd) oz)))⟩,?_⟩;refine aO ⟨_,⟨c9 (PW.pt (jr (dI mi (pv 4) (cX (v:=.int 2) 'd' T ⟨_,rfl⟩) (cP _)) (jr (dI mi (pv 5) (cX (v:=.int 2) 'd' T ⟨_,rfl⟩) (cP _)) (m7 (uZ (Iy hu (pv 2) (pv 3))))))) (cm IW) c_⟩,?_⟩;refine⟨_,m8,?_⟩;refine⟨_,rfl,J,_,rfl,aQ.of w4,rfl,_,_,rfl,_,_,rfl,rfl,?_⟩;refine⟨_,rfl,_,_,rfl,rfl,_,rfl,?_⟩;refine Dx (show(x:Int)<2 by lia) (cB ?_);exact q H l (bJ.refl _ _) M (λk h=>h) ED (.inl x2) (λx y h1 h2=>absurd h1 h2)
 |succ d ih=>
  refine F.ok nr (λvs H Q E h=>?_) (λbp A I s H vs Q E hr h=>?_)
  ·obtain⟨Z,S,J,g,Y,W,x,y,r,R2,l,rfl,_⟩:=h
   rfl
  ·obtain⟨Z,S,J,g,Y,W,x,y,r,R2,l,rfl,kI,jX,D,X,kU,vF,hN,w4,M,vU,Ey,ED,q⟩:=h;have hu:A.units+3+1<cLine:=by
    have h2:A.units+3+16*(d+1)+200<cLine:=hr.un;lia
   obtain⟨lx,ly⟩:=Ey.lt D X kU vF;refine aO ⟨_,⟨m6 (pv 2) (pR rfl (e_ (dj 4 nr.nd) (e_ (dj 5 nr.nd) oz)))⟩,?_⟩;refine aO ⟨_,⟨c9 (PW.pt (jr (dI mi (pv 4) (cX (v:=.int 2) 'd' T ⟨_,rfl⟩) (cP _)) (jr (dI mi (pv 5) (cX (v:=.int 2) 'd' T ⟨_,rfl⟩) (cP _)) (m7 (uZ (Iy hu (pv 2) (pv 3))))))) (cm IW) c_⟩,?_⟩;refine aO ⟨_,⟨AE hu (pv 3) (pv 2) js 'd'⟩,?_⟩;refine fV ⟨_,⟨o_ Yj rfl (xC3 'd' pF (cw.go (.cons ⟨cO gb (pv 0) (cy pQ (pv 4) (cX (v:=.int 2) 'd' T ⟨_,rfl⟩))⟩ (.cons ⟨cO gb (pv 1) (cy pQ (pv 5) (cX (v:=.int 2) 'd' T ⟨_,rfl⟩))⟩ .nil rfl) rfl))) (dj 6 nr.nd)
    (oW.go (.one ⟨ip (bZ ih hr hG F.kp bG (aD (pv 0) (aD (pv 1) (aD (pv 6) (aD (pv 3) aH)))))⟩))⟩,?_⟩
   refine⟨_,rfl,J,_,rfl,aQ.of w4,rfl,_,_,rfl,_,_,rfl,rfl,?_⟩;have e:(x<2\/y<2\/aU [x,y]∈KS l)->Q .cA H:=λh=>q H l (bJ.refl _ _) M (λk h=>h) ED h (λx y h1 h2=>absurd h1 h2);have ue:H J=some (.tup ((aU [x,y]).map kV)):=by rw[sg];exact w4
   refine⟨_,rfl,_,_,rfl,rfl,_,rfl,?_⟩;refine dD (λL=>cB (e (.inl (by have:=ZI L;lia)))) (λL=>?_);have x2:¬x<2:=λz=>L (Zq 'a');refine⟨_,rfl,_,_,rfl,rfl,_,rfl,?_⟩;refine dD (λL=>cB (e (.inr (.inl (by have:=ZI L;lia))))) (λL=>?_);have y2:¬y<2:=λz=>L (Zq 'a');refine⟨_,rfl,_,rfl,g,_,rfl,cS.t M ue,_,rfl,?_⟩;cases yU:br l (aU [x,y])with
   |some v=>exact cB (e (.inr (.inr (xi0 yU))))
   |none=>
    refine b_ ?_;have j7:=ED.len D X kU vF;refine⟨_,rfl,_,rfl,g,_,rfl,gZ.t (v:=.bl true) M ue (YX (ZN j7 hN) 'c'),?_⟩;rw[Mr yU];have V9:=ED.put (v:=.bl true) yU Ey 'a' 'a';have Je:KS (l++[(aU [x,y],V.bl true)])=KS l++[aU [x,y]]:=by show List.map _ _=_;rw[ZW];rfl
    have wJ:upd H g (.dT (l++[(aU [x,y],V.bl true)])) g=some (.dT (l++[(aU [x,y],V.bl true)])):=aX;have B1:bJ g H (upd H g (.dT (l++[(aU [x,y],V.bl true)]))):=bJ.upd;generalize l++[(aU [x,y],V.bl true)]=Ee at V9 Je wJ B1 ⊢;generalize upd H g (.dT Ee)=H1 at wJ B1 ⊢;have T1:dW H H1:=B1.cC M (λu z=>by cases z);obtain⟨B,a0,a1,a2,a3,rfl,jD⟩:=mj D lx x2;obtain⟨C,b0,b1,b2,b3,rfl,yJ⟩:=mj X ly y2;have Ff:=kI.mono T1;have Fd:=jX.mono T1;obtain⟨bs,vY,wO,jA⟩:=id Ff;obtain⟨cs,OR,vK,zH⟩:=id Fd;have hpr1:=(cx jD).1;have hqr1:=(cx yJ).1;have wU:bs[B]?=some (bs[B]'(by lia)):=Zd 'a';have Bo:cs[C]?=some (cs[C]'(by lia)):=Zd 'a';have wG:=jA B _ _ wU jD;have vZ:=zH C _ _ Bo yJ;generalize bs[B]'(by lia)=ra at wU wG;generalize cs[C]'(by lia)=rb at Bo vZ;refine⟨_,rfl,_,rfl,_,_,rfl,rfl,Z,_,((B:Nat):Int),.ref ra,rfl,Yo V.int 'a',aQ.of vY,kr (by rw[Zf,wU];rfl),_,rfl,_,rfl,_,_,rfl,rfl,S,_,((C:Nat):Int),.ref rb,rfl,Yo V.int 'a',aQ.of OR,kr (by rw[Zf,Bo];rfl),ra,rb,rfl,⟨_,aQ.of wG⟩,⟨_,aQ.of vZ⟩,?_⟩;refine xq0 (K:=K) (a:=ra) (b:=rb) (xs:=vN [a0,a1,a2,a3]) (ys:=vN [b0,b1,b2,b3]) rfl (λi σ G=>∃(p:List (List Key×V))(v6:Option V),σ=[some (.ref Z),some (.ref S),some (.ref J),some (.ref g),some (.int ((B+2:Nat):Int)),some (.int ((C+2:Nat):Int)),v6]/\bJ g H1 G/\G g=some (.dT p)/\(∀k∈KS Ee,k∈KS p)/\PK r R2 Y W p/\Ar r R2 Ee p/\∀j,j<i->2<=kd r (B+2) j->2<=kd R2 (C+2) j->aU [kd r (B+2) j,kd R2 (C+2) j]∈KS p) ?_ ?_ ?_ ?_
    ·exact⟨Ee,_,rfl,bJ.refl _ _,wJ,λk h=>h,V9,λx y h1 h2=>absurd h1 h2,λj hj=>absurd hj 'a'⟩
    ·rintro i σ G ⟨p,v6,rfl,O,Ju,_⟩;have T2:dW H1 G:=O.cC wJ (λu z=>by cases z);exact⟨aQ.of (T2 _ _ wG),aQ.of (T2 _ _ vZ)⟩
    ·rintro i x' y' t σ G oO El ht ⟨p,v6,rfl,O,Ju,sT,Nb,rQ,QM⟩;have T2:dW H1 G:=O.cC wJ (λu z=>by cases z);have U:=bF (o:=.tup [x',y']) ht;have Bh:i<4:=(cx oO).1;obtain⟨m,c,rfl⟩:=mZ oO;obtain⟨m',eU,rfl⟩:=mZ El;have e1:kd r (B+2) i=m:=by rw[K1 jD,Zt,c];rfl
     have e2:kd R2 (C+2) i=m':=by rw[K1 yJ,Zt,eU];rfl
     have OG:rS r R2 Y W m m':=by rw[<- e1,<- e2];exact .step Ey 'a' 'a' Bh
     have wM:dp r m<=d:=by
      obtain⟨N,R,g3,g4⟩:=Sy D jD vU
      match i,Bh,c with
      |0,_,c=>cases c;exact N
      |1,_,c=>cases c;exact R
      |2,_,c=>cases c;exact g3
      |3,_,c=>cases c;exact g4
     have T3:=T2.trans U.cC;refine⟨_,rfl,_,rfl,_,rfl,_,rfl,Z,S,t,g,Y,W,m,m',r,R2,p,rfl,Ff.mono T3,Fd.mono T3,D,X,kU,vF,hN,aX,U _ _ Ju,wM,OG,Nb,λH3 NW B3 PH sS Na Eh Aa=>?_⟩;refine⟨NW,_,rfl,(O.trans (bJ.of U)).trans B3,PH,λk h=>sS k (sT k h),Na,λx y h1 h2=>?_,λj hj N R=>?_⟩
     ·by_cases c:aU [x,y]∈KS p
      ·exact λj hj N R=>sS _ (rQ x y c h2 j hj N R)
      ·exact Aa x y h1 c
     ·by_cases hji:j<i
      ·exact sS _ (QM j hji N R)
      ·have:j=i:=by lia
       subst this;rw[e1]at N ⊢;rw[e2]at R ⊢;rcases Eh with h|h|h
       ·lia
       ·lia
       ·exact h
    ·rintro σ G ⟨p,v6,rfl,O,Ju,sT,Nb,rQ,QM⟩;have jO:aU [B+2,C+2]∈KS p:=sT _ (by rw[Je];simp);refine q G p (B1.trans O) Ju (λk h=>sT k (by rw[Je];exact YO _ h)) Nb (.inr (.inr jO)) (λx y h1 h2=>?_);by_cases c:aU [x,y]∈KS Ee
     ·rw[Je]at c;rcases Z8.mp c with h|h
      ·exact absurd h h2
      ·have:aU [x,y]=aU [B+2,C+2]:=by simpa using h
       have:=vd this;injection this with z1 z2
       injection z2 with z2 _
       subst z1;subst z2;exact QM
     ·exact rQ x y h1 c
theorem lD:aE ["one","other","found"] ["one","other"] (cg Ip):=cZ
def LX:Sp:=λf H Q _=>∃(t c:ae)(n e b:Nat)(rows a:List Row),f=[.ref t,.ref c]/\gO H t n e rows/\gO H c n b a/\rows.length*a.length<=1000000/\∀(d:Hp)(m:Nat),aC H d->Cnt rows a e b m->Q (.int (m:Nat)) d
theorem xq8{f C r:ae}{X v x:ai}(F:aP K "pairs" "pairs" Ip f X)(B:d_ mg)
  (hW:mg "want_one_floor"=some (.ref C)) (FW:aP K "want_one_floor" "want_one_floor" uT C v) (bW:Binds K v ["one","other"] []) (GW:aB P w K mg base aJ 17 C v ["one","other"] sX)
  (hG:mg "gather_pairs"=some (.ref r)) (FG:aP K "gather_pairs" "gather_pairs" IH r x) (bG:Binds K x qV []) (GG:∀d,aB P w K mg base aJ (d+1) r x qV (xP d)):aB P w K mg base aJ 18 f X ["one","other"] LX:=by
 refine F.ok lD (λvs H Q E h=>?_) (λbp A u s H vs Q E J h=>?_)
 ·obtain⟨t,i,n,c,g,rows,y,rfl,_⟩:=h
  rfl
 ·obtain⟨t,i,n,c,g,rows,y,rfl,h1,h2,Z,q⟩:=h;have hn:=h1.2.1.size;have OE:aS (n+1) _:=J.mono 'a';refine aO ⟨_,⟨ip (bZ GW J hW FW.kp bW (aD (pv 0) (aD (pv 1) aH)))⟩,?_⟩;refine aO ⟨_,⟨eI 2 lD.nd MQ⟩,?_⟩;refine aO ⟨_,⟨ip (bZ (GG n) OE hG FG.kp bG (cw.go (.cons ⟨cO gb (pv 0) aR⟩ (.cons ⟨cO gb (pv 1) aR⟩ (.cons ⟨kq (cw.go (.cons ⟨cO gb (pv 0) aR⟩ (.cons ⟨cO gb (pv 1) aR⟩ .nil rfl) rfl))⟩ (.cons ⟨pv 2⟩ .nil rfl) rfl) rfl) rfl)))⟩,?_⟩;refine fV ⟨_,⟨cj (cQ UI 'd' B.len ZF (aD (pv 2) aH))⟩,?_⟩;refine⟨_,rfl,_,rfl,t,i,n,c,g,rows,y,rfl,h1,h2,λN j=>?_⟩;intro a I;have U:=bF (o:=.dT []) I;have D:=mm h1 (j.trans U);have G:=mm h2 (j.trans U);have M:upd N a (.dT []) a=some (.dT []):=aX;have m:H a=none:=j.free I;have W:=j.trans U;generalize upd N a (.dT [])=H2 at U D G M W ⊢;obtain⟨⟨V,T,kI⟩,p,vO⟩:=id D;obtain⟨⟨L,O,jX⟩,R,jR⟩:=id G;refine⟨_,rfl,t,_,2,.ref V,rfl,rfl,aQ.of T,rfl,_,rfl,i,_,2,.ref L,rfl,rfl,aQ.of O,rfl,_,rfl,t,_,1,.int (c:Nat),rfl,rfl,aQ.of T,rfl,_,rfl,i,_,1,.int (g:Nat),rfl,rfl,aQ.of O,rfl,(by show 2<=sizeLine;decide),λpr w4=>?_⟩;have l:=bF (o:=.tup (vN [c,g])) w4;refine⟨_,rfl,V,L,pr,a,c,g,c,g,rows,y,[],rfl,kI.same l,jX.same l,p.gA,R.gA,p.gp,R.gp,Z,aX,l _ _ M,p.deep,.base,⟨XZ,λk hk=>by cases hk⟩,λH3 S b3 PH sS Y Eh Aa=>?_⟩;refine⟨_,rfl,a,S,rfl,PH,?_⟩;exact q H3 S.length (λb o e=>b3 _ _ (l _ _ (W _ _ e)) (ck e m)) (Y.cnt Eh Aa)
theorem iM:aE ["shape","n","top","rows"] ["shape"] (cg GV):=cZ
def Kw:Sp:=λd H Q _=>∃(t:ae)(n c:Nat)(rows:List Row),d=[.ref t]/\gO H t n c rows/\∀a b,aC H a->cD a b n (ex c) (gT rows)->Q (.ref b) a
theorem xE0{f l d c:ae}{m k a i:ai}(F:aP K "left_out" "left_out" GV f m)(B:d_ mg)(T:lh mg)
  (W:mg "want_shape"=some (.ref l)) (C:aP K "want_shape" "want_shape" uU l k) (O:Binds K k ["shape"] []) (D:aB P w K mg base aJ 16 l k ["shape"] Ma)
  (J:mg "exchanged"=some (.ref d)) (x:aP K "exchanged" "exchanged" Dp d a) (Y:Binds K a ["number"] [])
  (S:mg "exchanged_rows"=some (.ref c)) (FR:aP K "exchanged_rows" "exchanged_rows" AY c i) (I:Binds K i ["rows"] []) (Z:aB P w K mg base aJ 2 c i ["rows"] LY):aB P w K mg base aJ 17 f m ["shape"] Kw:=by
 have U:aB P w K mg base aJ 1 d a ["number"] Ky:=Sj x T;refine F.ok iM (λV H Q E h=>?_) (λbp A g s H V Q E b h=>?_)
 ·obtain⟨t,n,j,rows,rfl,_⟩:=h
  rfl
 ·obtain⟨t,n,j,rows,rfl,v,q⟩:=h;have M:aS 1 _:=b.mono 'c';have y:aS 2 _:=b.mono 'c';refine⟨_,dG (ip (bZ D b W C.kp O (aD (pv 0) aH)))
   (dG (m6 (pv 0) (pR rfl (e_ (dj 1 iM.nd) (e_ (dj 2 iM.nd) (e_ (dj 3 iM.nd) oz)))))
   (cm (cj (kq (aD (pv 1) (aD (bZ U M J x.kp Y (aD (pv 2) aH)) (aD (bZ Z y S FR.kp I (aD (pv 3) aH)) aH))))))),?_⟩
  refine⟨_,rfl,t,n,j,rows,rfl,v,λH1 e=>?_⟩;obtain⟨⟨p,G,L⟩,N,hl⟩:=v;refine⟨_,rfl,t,_,rfl,aQ.of (e _ _ G),rfl,_,_,rfl,_,_,rfl,_,_,rfl,rfl,?_⟩;refine⟨_,rfl,_,rfl,j,rfl,_,rfl,p,rows,rfl,L.same e,N.gA,ZN hl 'c',λH2 X s2 R=>⟨(by show 3<=sizeLine;decide),λu r=>?_⟩⟩;exact q _ u (e.trans (s2.trans (bF r))) ⟨X,aX,R.same (bF r)⟩
inductive Cb(CS CO:ae)(sp:Sp)(vs:List V)(H:Hp)(Q:VK)(E:XK):Prop
 |mk(v v2:V)(d d2:PyData)(e0:vs=[v,v2])(e1:aV H v d)(e2:g9 d)(e3:aV H v2 d2)(e4:g9 d2)(e5:uC CS CO (sp vs H Q E) H d d2 E)
def eD(b a:ae)(sp:Sp):Sp:=λc H Q E=>Cb b a sp c H Q E
inductive xV(CS CO:ae)(vs:List V)(H:Hp)(Q:VK)(E:XK):Prop
 |mk(v v2 v3:V)(d d2:PyData)(e0:vs=[v,v2,v3])(e1:aV H v d)(e2:g9 d)(e3:aV H v2 d2)(e4:g9 d2)(e5:uC CS CO False H d d2 E)
def A5(b a:ae):Sp:=λc H Q E=>xV b a c H Q E
theorem xL5{f c g i:ae}{j b:ai}(F:aP K "brought_together" "brought_together" ve f j)
  (C:mg "want_one_floor"=some (.ref c)) (p:aP K "want_one_floor" "want_one_floor" uT c b) (x:Binds K b ["one","other"] []) (q:aB P w K mg base (fc P w) 17 c b ["one","other"] (BK g i)):
  aB P w K mg base (fc P w) 18 f j ["one","other","outcomes"] (A5 g i):=by
 refine F.gf xW (λy H Q E h=>?_) (λI A a s H y Q E u h=>?_)
 ·obtain⟨v,e,G,d,k,rfl,_⟩:=h
  rfl
 ·obtain⟨v,e,G,d,k,rfl,l,m,B,r,D⟩:=h;refine aO ⟨_,⟨ip (jw q u 'd' C p.kp x .nil lH (aD (pv 0) (aD (pv 1) aH)))⟩,?_⟩;exact⟨_,m8,_,rfl,_,rfl,v,e,d,k,rfl,l,m,B,r,D⟩
theorem sN.bt{j l b:ae}{u:Nat->Nat->Nat}{v a:V}{d d2:PyData}{H:Hp}{Q:VK}{E:XK}(g:aV H v d)(i:g9 d)(p:aV H a d2)(k:g9 d2)(G:iD K b (vN [u 0 0,u 0 1,u 1 0,u 1 1]))(A:Oc u)
  (D:uC j l (uQ u [v,a] H Q E) H d d2 E):nq K [v,a,.ref b] H Q E\/A5 j l [v,a,.ref b] H Q E:=by
 cases D with
 |no h e=>exact .inr ⟨v,a,_,d,d2,rfl,g,i,p,k,.no h e⟩
 |pZ n m c f rows x B y s C h e=>exact .inr ⟨v,a,_,d,d2,rfl,g,i,p,k,.pZ n m c f rows x B y s C h e⟩
 |yes h=>
  obtain⟨t,r,n,c,f,rows,F,e,h1,h2,I,q⟩:=h;cases e;exact .inl ⟨t,r,b,u,n,c,f,rows,F,rfl,h1,h2,G,A,I,q⟩
theorem q36{f e b i j:ae}{k c:ai}(F:aP K "joined" "joined" SO f k)(I:mg "brought_together"=some (.ref e))(x:aP K "brought_together" "brought_together" ve e c)(B:Binds K c ["one","other","outcomes"] [])
  (q:aB P w K mg base (fc P w) 18 e c ["one","other","outcomes"] (λa H Q E=>nq K a H Q E\/A5 i j a H Q E)) (hc:mg "JOINED"=some (.ref b)) (G:iD K b (vN [0,1,1,1])):aB P w K mg base (fc P w) 19 f k ["one","other"] (eD i j (uQ (un 0 1 1 1))):=by
 refine F.gf cZ (N:=["one","other"]) (λa H Q E h=>?_) (λJ A g s H a Q E u h=>?_)
 ·obtain⟨v,p,d,D,rfl,_⟩:=h
  rfl
 ·obtain⟨v,p,d,D,rfl,l,m,y,r,C⟩:=h;refine fV ⟨_,⟨cj (jw q u 'd' I x.kp B .nil lH (aD (pv 0) (aD (pv 1) (aD (cX (v:=.ref b) 'd' hc rfl) aH))))⟩,?_⟩;refine⟨_,rfl,_,rfl,?_⟩;exact sN.bt l m y r G (Gw 'c') C
theorem xE1{f e b i j:ae}{k c:ai}(F:aP K "cut" "cut" Cq f k)(I:mg "brought_together"=some (.ref e))(x:aP K "brought_together" "brought_together" ve e c)(B:Binds K c ["one","other","outcomes"] [])
  (q:aB P w K mg base (fc P w) 18 e c ["one","other","outcomes"] (λa H Q E=>nq K a H Q E\/A5 i j a H Q E)) (hc:mg "CUT"=some (.ref b)) (G:iD K b (vN [0,0,0,1])):aB P w K mg base (fc P w) 19 f k ["one","other"] (eD i j (uQ (un 0 0 0 1))):=by
 refine F.gf cZ (N:=["one","other"]) (λa H Q E h=>?_) (λJ A g s H a Q E u h=>?_)
 ·obtain⟨v,p,d,D,rfl,_⟩:=h
  rfl
 ·obtain⟨v,p,d,D,rfl,l,m,y,r,C⟩:=h;refine fV ⟨_,⟨cj (jw q u 'd' I x.kp B .nil lH (aD (pv 0) (aD (pv 1) (aD (cX (v:=.ref b) 'd' hc rfl) aH))))⟩,?_⟩;refine⟨_,rfl,_,rfl,?_⟩;exact sN.bt l m y r G (Gw 'c') C
theorem qU6{f e b i j:ae}{k c:ai}(F:aP K "without" "without" MI f k)(I:mg "brought_together"=some (.ref e))(x:aP K "brought_together" "brought_together" ve e c)(B:Binds K c ["one","other","outcomes"] [])
  (q:aB P w K mg base (fc P w) 18 e c ["one","other","outcomes"] (λa H Q E=>nq K a H Q E\/A5 i j a H Q E)) (hc:mg "WITHOUT"=some (.ref b)) (G:iD K b (vN [0,0,1,0])):aB P w K mg base (fc P w) 19 f k ["one","other"] (eD i j (uQ (un 0 0 1 0))):=by
 refine F.gf cZ (N:=["one","other"]) (λa H Q E h=>?_) (λJ A g s H a Q E u h=>?_)
 ·obtain⟨v,p,d,D,rfl,_⟩:=h
  rfl
 ·obtain⟨v,p,d,D,rfl,l,m,y,r,C⟩:=h;refine fV ⟨_,⟨cj (jw q u 'd' I x.kp B .nil lH (aD (pv 0) (aD (pv 1) (aD (cX (v:=.ref b) 'd' hc rfl) aH))))⟩,?_⟩;refine⟨_,rfl,_,rfl,?_⟩;exact sN.bt l m y r G (Gw 'c') C
theorem q37{f e b i j:ae}{k c:ai}(F:aP K "unlike" "unlike" Me f k)(I:mg "brought_together"=some (.ref e))(x:aP K "brought_together" "brought_together" ve e c)(B:Binds K c ["one","other","outcomes"] [])
  (q:aB P w K mg base (fc P w) 18 e c ["one","other","outcomes"] (λa H Q E=>nq K a H Q E\/A5 i j a H Q E)) (hc:mg "UNLIKE"=some (.ref b)) (G:iD K b (vN [0,1,1,0])):aB P w K mg base (fc P w) 19 f k ["one","other"] (eD i j (uQ (un 0 1 1 0))):=by
 refine F.gf cZ (N:=["one","other"]) (λa H Q E h=>?_) (λJ A g s H a Q E u h=>?_)
 ·obtain⟨v,p,d,D,rfl,_⟩:=h
  rfl
 ·obtain⟨v,p,d,D,rfl,l,m,y,r,C⟩:=h;refine fV ⟨_,⟨cj (jw q u 'd' I x.kp B .nil lH (aD (pv 0) (aD (pv 1) (aD (cX (v:=.ref b) 'd' hc rfl) aH))))⟩,?_⟩;refine⟨_,rfl,_,rfl,?_⟩;exact sN.bt l m y r G (Gw 'c') C
inductive Ce(vs:List V)(H:Hp)(Q:VK):Prop
 |mk(t t':ae)(n tp bu:Nat)(rows j6:List Row)(e0:vs=[.ref t,.ref t'])(e1:gO H t n tp rows)(e2:gO H t' n bu j6)(e3:2*rows.length+2*j6.length+rows.length*j6.length<=890)(q:∀H' x,aC H H'->Q x H')
def iz:Sp:=λa H Q _=>Ce a H Q
theorem IB{CX:lW}{k:Nat}{f:ae}{e:ai}{b c:ae}{u:Nat->Nat->Nat}(G:aB P w K mg base CX k f e ["one","other"] (eD b c (uQ u))):aB P w K mg base CX k f e ["one","other"] (eD b c iz):=by
 refine G.imp λF H Q E h=>?_;obtain⟨v,l,d,A,a,g,j,r,p,y⟩:=h;refine⟨v,l,d,A,a,g,j,r,p,y.imp λh=>?_⟩;obtain⟨t,i,n,s,x,rows,B,a,h1,h2,C,q⟩:=h;exact⟨t,i,n,s,x,rows,B,a,h1,h2,ZN C 'c',λm I _ _ D _ _ _=>q m _ D⟩
theorem xq9{f c g i:ae}{k b:ai}(F:aP K "lies_in" "lies_in" Ka f k)(W:∃t,mg "EMPTY"=some (.int 0 t))(N:mg "without"=some (.ref c))(u:aP K "without" "without" MI c b)(I:Binds K b ["one","other"] [])(x:aB P w K mg base (fc P w) 19 c b ["one","other"] (eD g i (uQ (un 0 0 1 0)))):
  aB P w K mg base (fc P w) 20 f k ["one","other"] (eD g i iz):=by
 obtain⟨te,U⟩:=W;refine F.gf xL2 (λJ H Q E h=>?_) (λbp A a s H J Q E D h=>?_)
 ·obtain⟨v,e,d,j,rfl,_⟩:=h
  rfl
 ·obtain⟨v,e,d,j,rfl,l,r,L,C,V⟩:=h;refine fV ⟨_,⟨cj (oy mY (cO gb (df.go ⟨jw x D 'd' N u.kp I .nil lH (aD (pv 0) (aD (pv 1) aH))⟩) aR) (cX (v:=.int 0) 'd' U ⟨_,rfl⟩) (cP _))⟩,?_⟩;refine⟨_,rfl,_,rfl,v,e,d,j,rfl,l,r,L,C,V.imp λh=>?_⟩;obtain⟨t,m,n,R,T,rows,X,G,h1,h2,Y,q⟩:=h;refine⟨t,m,n,R,T,rows,X,G,h1,h2,ZN Y 'c',λy O p rq Z B hT S=>?_⟩;obtain⟨⟨rp,M,jX⟩,c2,_⟩:=id B;exact⟨O,_,1,.int (p:Nat),rfl,rfl,aQ.of M,rfl,rfl,q y _ Z⟩
theorem xr0{f a i k l:ae}{p g b:ai}(F:aP K "parting" "parting" MH f p)(U:mg "unlike"=some (.ref i))(S:aP K "unlike" "unlike" Me i b)(bU:Binds K b ["one","other"] [])(GU:aB P w K mg base (fc P w) 19 i b ["one","other"] (eD k l (uQ (un 0 1 1 0))))
  (hS:mg "some_full_cell"=some (.ref a)) (N:aP K "some_full_cell" "some_full_cell" CT a g) (G:Binds K g ["shape"] []) (X:aB P w K mg base aJ 2 a g ["shape"] xI):
  aB P w K mg base (fc P w) 20 f p ["one","other"] (eD k l iz):=by
 refine F.gf xL3 (λV H Q E h=>?_) (λbp A e s H V Q E m h=>?_)
 ·obtain⟨v,j,d,u,rfl,_⟩:=h
  rfl
 ·obtain⟨v,j,d,u,rfl,y,D,W,O,cs⟩:=h;have J:aS 2 _:=m.mono 'c';refine fV ⟨_,⟨cj (bZ X J hS N.kp G (cw.go (.cons ⟨jw GU m 'd' U S.kp bU .nil lH (aD (pv 0) (aD (pv 1) aH))⟩ .nil rfl)))⟩,?_⟩;refine⟨_,rfl,_,rfl,v,j,d,u,rfl,y,D,W,O,cs.imp λh=>?_⟩;obtain⟨t,B,n,Z,bu,rows,j6,R,h1,h2,hl,q⟩:=h;refine⟨t,B,n,Z,bu,rows,j6,R,h1,h2,ZN hl 'c',λL Y C rq x M hT hlq=>?_⟩;exact⟨Y,n,C,rq,rfl,M,λz=>q L _ x,λz T c r cc s3 hc PF yO I j9=>q T _ (x.trans s3)⟩
theorem xi2{f D p r:ae}{l B:ai}(F:aP K "pairs" "pairs" Ip f l)(G:aB P w K mg base aJ 18 f l ["one","other"] LX)
  (W:mg "want_one_floor"=some (.ref D)) (M:aP K "want_one_floor" "want_one_floor" uT D B) (V:Binds K B ["one","other"] []) (N:aB P w K mg base (fc P w) 17 D B ["one","other"] (BK p r)):
  aB P w K mg base (fc P w) 18 f l ["one","other"] (eD p r iz):=by
 have R:aB P w K mg base (fc P w) 18 f l ["one","other"] (BK p r):=by
  refine F.gf lD (λI H Q E h=>?_) (λbp A u s H I Q E U h=>?_)
  ·obtain⟨v,a,d,b,rfl,_⟩:=h
   rfl
  ·obtain⟨v,a,d,b,rfl,c,g,k,i,C⟩:=h;refine aO ⟨_,⟨ip (jw N U 'd' W M.kp V .nil lH (aD (pv 0) (aD (pv 1) aH)))⟩,?_⟩;exact⟨_,m8,_,rfl,_,rfl,v,a,d,b,rfl,c,g,k,i,C⟩
 refine(GC (K4 G) R).imp λI H Q E h=>?_;obtain⟨v,a,d,b,j,c,g,k,i,C⟩:=h;cases C with
 |no h e=>exact .inr ⟨v,a,d,b,j,c,g,k,i,.no h e⟩
 |pZ n m x y rows O X T L Y h e=>exact .inr ⟨v,a,d,b,j,c,g,k,i,.pZ n m x y rows O X T L Y h e⟩
 |yes h=>
  obtain⟨t,J,n,x,y,rows,Z,j,h1,h2,hl,q⟩:=h;exact .inl ⟨t,J,n,x,y,rows,Z,j,h1,h2,by lia,λS m s2=>λ_=>q S _ s2⟩
inductive xO(CS:ae)(vs:List V)(H:Hp)(Q:VK)(E:XK):Prop
 |no (v:V) (d:PyData) (e0:vs=[v]) (e1:aV H v d) (e2:g9 d) (h:¬fw d) (e:∀H',aC H H'->E (.ref CS) none H')
 |yes (t:ae) (n tp:Nat) (rows:List Row) (e0:vs=[.ref t]) (e1:gO H t n tp rows) (q:∀H' x,aC H H'->Q x H')
def KZ(a:ae):Sp:=λb H Q E=>xO a b H Q E
theorem xr1{f p j:ae}{c m:ai}(F:aP K "left_out" "left_out" GV f c)(G:aB P w K mg base aJ 17 f c ["shape"] Kw)
  (B:mg "want_shape"=some (.ref p)) (r:aP K "want_shape" "want_shape" uU p m) (y:Binds K m ["shape"] []) (u:aB P w K mg base (fc P w) 16 p m ["shape"] (Hr j)):
  aB P w K mg base (fc P w) 17 f c ["shape"] (KZ j):=by
 have R:aB P w K mg base (fc P w) 17 f c ["shape"] (λb H Q E=>∃(v:V)(d:PyData),b=[v]/\aV H v d/\g9 d/\¬fw d/\∀a,aC H a->E (.ref j) none a):=by
  refine F.gf iM (λb H Q E h=>?_) (λI A l s H b Q E x h=>?_)
  ·obtain⟨v,d,rfl,_⟩:=h
   rfl
  ·obtain⟨v,d,rfl,g,i,no,e⟩:=h;refine aO ⟨_,⟨ip (jw u x 'd' B r.kp y .nil lH (aD (pv 0) aH))⟩,?_⟩;exact⟨_,m8,_,rfl,v,d,rfl,g,i,λz=>absurd z no,λ_=>e⟩
 refine(GC (K4 G) R).imp λb H Q E h=>?_;cases h with
 |no v d k g i no e=>exact .inr ⟨v,d,k,g,i,no,e⟩
 |yes t n C rows k h1 q=>exact .inl ⟨t,n,C,rows,k,h1,λa D s _=>q a _ s⟩
end
end Pr
namespace L2
open PySem PySem.Spec PyProof.Rows PySem.W
section
variable{X:Cx}
inductive mR(K_:PySem.W.Frag)(xs:List V)(H:Hp)(Q:VK):Prop
 |mk(a C tp:ae)(cs:List ae)(b:Bool)(aM:xs=[.ref a,.ref tp])(dh:H a=some (.ext (ExcAt a C)))(bH:fy K_ C)(aF:H tp=some (.tup (cs.map V.ref)))(zX:kitAny K_ (.ref C) (cs.map Value.ref)=some b)(By:Q (.bl b) H)
theorem xi3:iO X (.builtin "isinstance") (mR X.K):=by
 intro R s N H S c Q I r h;obtain⟨a,C,e,U,b,rfl,L,T,K,g,q⟩:=h;obtain⟨u,w,rfl,y,E⟩:=G8 r;cases(show u=Value.ref a from y);cases(show w=Value.ref e from E);have p:ExcAt a C s.heap:=(I.aW a _ L).1;obtain⟨_,M,j,ob,d,D,n,f⟩:=I.aW e _ K;have v:∀{l:List ae}{c:List aa},Vals (l.map V.ref) c->c=l.map Value.ref:=by
  intro l
  induction l with
  |nil=>intro c z;cases z;rfl
  |cons x l J=>
   intro c z;cases z with
   |cons i B=>
    cases(show _=Value.ref x from i);rw[J B]
    rfl
 have F:=v j;subst F;obtain⟨A,P,G,O⟩:=ob;have k:A=_:=D;have m:G=_:=f;rw[k,m]at d;exact kia_tup (Uh T) I.gD p d g (λz=>nomatch z) λW=>⟨.bl b,H,I.tok _,rfl,q⟩
end
end L2
namespace L2
open PySem PySem.Spec PyProof.Rows
theorem xL6{P:ah}{w:ak}{K:PySem.W.Frag}{mg:aq->Option aa}{base:ao}{k:Nat}{x f:ae}{e:ai}{ps:List aq}{sp j:Ag}(F:ix P w K mg base k x f e ps sp)(G:ix P w K mg base k x f e ps j):
  ix P w K mg base k x f e ps (λd H Q=>sp d H Q\/j d H Q):=
 ⟨λd H Q h=>h.elim (F.len d H Q) (G.len d H Q),λA a s H c g d Q i l b v h=>h.elim (F.run A a s H c g d Q i l b v) (G.run A a s H c g d Q i l b v)⟩
end L2
namespace Pr
open PySem L2 Qf
structure Kc(mg:aq->Option aa)(CS CO FE o0 o1 o2 o3 o4 o5:ae):Prop where
 s:mg "NoShape"=some (.ref CS)
 o:mg "OtherFloor"=some (.ref CO)
 fe:mg "FloorError"=some (.ref FE)
 a0:mg "NoCell"=some (.ref o0)
 a1:mg "NoFloor"=some (.ref o1)
 a2:mg "NoNumber"=some (.ref o2)
 a3:mg "NoTelling"=some (.ref o3)
 a4:mg "NoText"=some (.ref o4)
 a5:mg "TooMany"=some (.ref o5)
 v:mg "ValueError"=none
structure Gi(K:PySem.W.Frag)(C CS CO o0 o1 o2 o3 o4 o5:ae)(b0 b1:Bool):Prop where
 ec:fy K C
 v:PySem.W.kitOne K (.ref C) (.type "ValueError")=some true
 any:PySem.W.kitAny K (.ref C) [.ref o0,.ref o1,.ref o2,.ref o3,.ref o4,.ref o5]=some false
 s:PySem.W.kitOne K (.ref C) (.ref CS)=some b0
 o:PySem.W.kitOne K (.ref C) (.ref CO)=some b1
theorem KY{H a d:Hp}{c:ae}{o:HO}(g:aC H a)(h:a c=none)(i:aC (upd a c o) d):aC H d:=λb u e=>by
 have f:=g b u e;exact i b u (by rw[bo (ck f h)];exact f)
section
variable{mg:aq->Option aa}{base:ao}
theorem xL7:aE ["_law_e"] ["_law_e"] (cg HC):=cZ
def KW(C x:ae)(t:aq):Ag:=λb H Q=>b=[.ref x]/\H x=some (.ext (ExcAt x C))/\∀a,aC H a->Q (.str t) a
theorem RD{f x C D r S e d a c g i:ae}{N:ai}{b:Bool}{t:aq}(F:aP K "_law_class_of" "_law_class_of" HC f N)(B:d_ mg)(T:Kc mg D r S e d a c g i)(k:Gi K C D r e d a c g i (!b) b)
  (hb:t=if b then("other floor":aq)else("no shape":aq)):ix P w K mg base 1 x f N ["_law_e"] (KW C x t):=by
 refine F.okH xL7 (λR H Q h=>?_) (λY A I s H R Q X h=>?_)
 ·obtain⟨rfl,_⟩:=h
  rfl
 ·obtain⟨rfl,G,q⟩:=h;refine aO ⟨_,⟨c9 (PW.pt (jr (i_ (il (cQ nI 'd' B.m9 ZA (aD (pv 0) (aD (pT (v:=.ty "ValueError") 'd' T.v (by decide +kernel) rfl) aH)))))
   (m7 (il (cQ xi3 'd' B.m9 ZA (aD (pv 0) (aD (df.go ⟨kq (cw.go (.cons ⟨cX (v:=.ref e) 'd' T.a0 rfl⟩ (.cons ⟨cX (v:=.ref d) 'd' T.a1 rfl⟩ (.cons ⟨cX (v:=.ref a) 'd' T.a2 rfl⟩ (.cons ⟨cX (v:=.ref c) 'd' T.a3 rfl⟩ (.cons ⟨cX (v:=.ref g) 'd' T.a4 rfl⟩ (.cons ⟨cX (v:=.ref i) 'd' T.a5 rfl⟩ .nil rfl) rfl) rfl) rfl) rfl) rfl))⟩) aH))))))) (cm (cj nE)) c_⟩,?_⟩
  refine aO ⟨_,⟨c9 (dI mY (cQ nI 'd' B.m9 ZA (aD (pv 0) (aD (cX (v:=.ref D) 'd' T.s rfl) aH))) (cQ nI 'd' B.m9 ZA (aD (pv 0) (aD (cX (v:=.ref r) 'd' T.o rfl) aH))) (cP _)) (cm (cj nE)) c_⟩,?_⟩;refine fV ⟨_,⟨cj (cO jv (iI (aD nE (aD nE aH))) (df.go ⟨hZ HV 'd' B.int YW (aD (cQ nI 'd' B.m9 ZA (aD (pv 0) (aD (cX (v:=.ref r) 'd' T.o rfl) aH))) aH)⟩))⟩,?_⟩;have y:∀{L:Hp},L x=some (.ext (ExcAt x C))->Gm K L (.ref x) (.ref C):=λh=>⟨x,C,rfl,h,k.ec,rfl⟩;refine⟨_,rfl,_,_,_,_,_,rfl,rfl,.inr (y G),k.v,true,rfl,b_ ?_⟩;refine⟨_,rfl,(by show 6<=sizeLine;decide),λu O=>?_⟩;have p:=bF (o:=.tup ([e,d,a,c,g,i].map V.ref)) O;have E:upd H u (.tup ([e,d,a,c,g,i].map V.ref)) u=some (.tup ([e,d,a,c,g,i].map V.ref)):=aX;have m:=p _ _ G;refine(λ(go:∀j,aC H j->j u=some (.tup ([e,d,a,c,g,i].map V.ref))->j x=some (.ext (ExcAt x C))->_)=>go _ p E m) ?_;intro j p E m;refine⟨x,C,u,_,false,rfl,m,k.ec,E,k.any,false,rfl,b_ ?_⟩;refine⟨_,rfl,_,_,_,_,_,rfl,rfl,.inr (y m),k.s,_,rfl,_,_,_,_,_,rfl,rfl,.inr (y m),k.o,rfl,_,rfl,?_⟩;rw[Zy (show ¬V.bl (!b)=V.bl b by cases b<;>decide +kernel)];refine b_ ?_;refine⟨by show 2<=sizeLine;decide,λl U=>?_⟩;have M:=p.trans (bF (o:=.lst [.str "no shape",.str "other floor"]) U);have h1:upd j l (.lst [.str "no shape",.str "other floor"]) l=some (.lst [.str "no shape",.str "other floor"]):=aX;have W:=M _ _ G;refine⟨_,rfl,_,_,_,_,_,rfl,rfl,.inr (y W),k.o,.inr ⟨b,rfl,?_⟩⟩;have J:=q _ M;subst hb;cases b with
  |true=>exact⟨l,_,1,.str "other floor",rfl,rfl,bY.of h1,rfl,J⟩
  |false=>exact⟨l,_,0,.str "no shape",rfl,rfl,bY.of h1,rfl,J⟩
abbrev v_:List aq:=["_law_k","_law_one","_law_other"]
theorem Lr:aE v_ v_ (cg GH):=cZ
inductive Cj(CS CO:ae)(vs:List V)(H:Hp)(Q:VK)(E:XK):Prop
 |two (k:Nat) (v v2:V) (e0:vs=[.int (k:Nat),v,v2]) (hk:k<7) (h:eD CS CO iz [v,v2] H Q E)
 |one (v v2:V) (e0:vs=[.int 7,v,v2]) (h:KZ CS [v] H Q E)
def xS(b a:ae):Sp:=λc H Q E=>Cj b a c H Q E
structure uF(P:ah)(w:ak)(K:PySem.W.Frag)(mg:aq->Option aa)(base:ao)(x:aq)(ps:List aq)(sp:Sp):Prop where
 ex:∃f fd,mg x=some (.ref f)/\PySem.W.keepIn K (.ref f)=true/\Binds K fd ps []/\aB P w K mg base (fc P w) 20 f fd ps sp
theorem xq{x:aq}{st:ay}{ps:List aq}{f:ae}{a:ai}{sp:Sp}(h:mg x=some (.ref f))(F:aP K x x st f a)(b:Binds K a ps [])(G:aB P w K mg base (fc P w) 20 f a ps sp):uF P w K mg base x ps sp:=⟨f,a,h,F.kp,b,G⟩
theorem xQ9{f c d:ae}{m:ai}(F:aP K "_law_deed" "_law_deed" GH f m)(Z:uF P w K mg base "joined" ["one","other"] (eD c d iz))(x:uF P w K mg base "cut" ["one","other"] (eD c d iz))(J:uF P w K mg base "without" ["one","other"] (eD c d iz))(D:uF P w K mg base "unlike" ["one","other"] (eD c d iz))
  (c4:uF P w K mg base "lies_in" ["one","other"] (eD c d iz)) (c5:uF P w K mg base "parting" ["one","other"] (eD c d iz)) (C:uF P w K mg base "pairs" ["one","other"] (eD c d iz)) (c7:uF P w K mg base "left_out" ["shape"] (KZ c)):
  aB P w K mg base (fc P w) 21 f m v_ (xS c d):=by
 obtain⟨f0,d0,u,F0,b0,G0⟩:=Z.ex;obtain⟨f1,d1,h1,F1,b1,G1⟩:=x.ex;obtain⟨f2,d2,h2,S,N,q⟩:=J.ex;obtain⟨f3,d3,Y,O,X,G3⟩:=D.ex;obtain⟨f4,d4,r,y,U,I⟩:=c4.ex;obtain⟨f5,d5,h5,F5,b5,p⟩:=c5.ex;obtain⟨f6,d6,W,M,b6,G6⟩:=C.ex;obtain⟨f7,d7,L,F7,R,G7⟩:=c7.ex;refine F.gf Lr (λG H Q E h=>?_) (λbp A i s H G Q E e h=>?_)
 ·cases h with
  |two k v l g hk h=>subst g;rfl
  |one v l g h=>subst g;rfl
 ·have T:∀(k j:Nat),decide (V.int ((k:Nat):Int)=V.int ((j:Nat):Int))=decide (k=j):=λk j=>decide_eq_decide.mpr ⟨λz=>by have:=V.int.inj z;lia,λz=>by rw[z]⟩;refine aO ⟨_,⟨c9 (dI mY (pv 0) aR (cP _)) (cm (cj (jw G0 e 'd' u F0 b0 .nil lH (aD (pv 1) (aD (pv 2) aH))))) c_⟩,?_⟩;refine aO ⟨_,⟨c9 (dI mY (pv 0) aR (cP _)) (cm (cj (jw G1 e 'd' h1 F1 b1 .nil lH (aD (pv 1) (aD (pv 2) aH))))) c_⟩,?_⟩;refine aO ⟨_,⟨c9 (dI mY (pv 0) aR (cP _)) (cm (cj (jw q e 'd' h2 S N .nil lH (aD (pv 1) (aD (pv 2) aH))))) c_⟩,?_⟩;refine aO ⟨_,⟨c9 (dI mY (pv 0) aR (cP _)) (cm (cj (jw G3 e 'd' Y O X .nil lH (aD (pv 1) (aD (pv 2) aH))))) c_⟩,?_⟩;refine aO ⟨_,⟨c9 (dI mY (pv 0) aR (cP _)) (cm (cj (jw I e 'd' r y U .nil lH (aD (pv 1) (aD (pv 2) aH))))) c_⟩,?_⟩;refine aO ⟨_,⟨c9 (dI mY (pv 0) aR (cP _)) (cm (cj (jw p e 'd' h5 F5 b5 .nil lH (aD (pv 1) (aD (pv 2) aH))))) c_⟩,?_⟩;refine aO ⟨_,⟨c9 (dI mY (pv 0) aR (cP _)) (cm (cj (jw G6 e 'd' W M b6 .nil lH (aD (pv 1) (aD (pv 2) aH))))) c_⟩,?_⟩;refine fV ⟨_,⟨cj (jw G7 e 'd' L F7 R .nil lH (aD (pv 1) aH))⟩,?_⟩;cases h with
  |two k v l g hk h=>
   subst g;have go:∀(j:Nat){A B:Prop},(k=j->A)->(k≠j->B)->if decide (V.int ((k:Nat):Int)=V.int ((j:Nat):Int))=true then A else B:=λj A B a b=>by
    rw[T];by_cases z:k=j
    ·exact Dx z (a z)
    ·exact qC z (b z)
   have yes:∀{A:Prop},A->A:=λa=>a;refine⟨_,rfl,rfl,_,rfl,go 0 (λ_=>⟨_,rfl,_,rfl,h⟩) λn0=>?_⟩;refine⟨_,rfl,rfl,_,rfl,go 1 (λ_=>⟨_,rfl,_,rfl,h⟩) λn1=>?_⟩;refine⟨_,rfl,rfl,_,rfl,go 2 (λ_=>⟨_,rfl,_,rfl,h⟩) λn2=>?_⟩;refine⟨_,rfl,rfl,_,rfl,go 3 (λ_=>⟨_,rfl,_,rfl,h⟩) λn3=>?_⟩;refine⟨_,rfl,rfl,_,rfl,go 4 (λ_=>⟨_,rfl,_,rfl,h⟩) λn4=>?_⟩;refine⟨_,rfl,rfl,_,rfl,go 5 (λ_=>⟨_,rfl,_,rfl,h⟩) λn5=>?_⟩;refine⟨_,rfl,rfl,_,rfl,go 6 (λ_=>⟨_,rfl,_,rfl,h⟩) λn6=>?_⟩;lia
  |one v l g h=>
   subst g;refine⟨_,rfl,rfl,_,rfl,qC (by decide +kernel) ?_⟩;refine⟨_,rfl,rfl,_,rfl,qC (by decide +kernel) ?_⟩;refine⟨_,rfl,rfl,_,rfl,qC (by decide +kernel) ?_⟩;refine⟨_,rfl,rfl,_,rfl,qC (by decide +kernel) ?_⟩;refine⟨_,rfl,rfl,_,rfl,qC (by decide +kernel) ?_⟩;refine⟨_,rfl,rfl,_,rfl,qC (by decide +kernel) ?_⟩;refine⟨_,rfl,rfl,_,rfl,qC (by decide +kernel) ?_⟩;exact⟨_,rfl,h⟩
end
structure Kf3(K:PySem.W.Frag)(CS CO FE:ae):Prop where
 fs:PySem.W.exmOne K (.ref CS) (.ref FE)=some true
 fo:PySem.W.exmOne K (.ref CO) (.ref FE)=some true
def se(H:Hp)(v c:V):Prop:=∃(t b:ae)(n d e:Nat)(rows a:List Row),v=.ref t/\c=.ref b/\gO H t n d rows/\gO H b n e a/\2*rows.length+2*a.length+rows.length*a.length<=890
def Q3(H:Hp)(v:V):Prop:=∃(t:ae)(n a:Nat)(rows:List Row),v=.ref t/\gO H t n a rows
section
variable{mg:aq->Option aa}{base:ao}
inductive l8(vs:List V)(H:Hp)(Q:VK):Prop
 |two (k:Nat) (v v2:V) (d d2:PyData) (e0:vs=[.int (k:Nat),v,v2]) (hk:k<7) (e1:aV H v d) (e2:g9 d) (e3:aV H v2 d2) (e4:g9 d2) (h:sN (Q (.str "no shape")) (Q (.str "other floor")) (se H v v2/\∀H',aC H H'->Q (.str "none") H') H d d2)
 |no (v v2:V) (d:PyData) (e0:vs=[.int 7,v,v2]) (e1:aV H v d) (e2:g9 d) (h:¬fw d) (q:∀H',aC H H'->Q (.str "no shape") H')
 |one (v v2:V) (e0:vs=[.int 7,v,v2]) (h:Q3 H v) (q:∀H',aC H H'->Q (.str "none") H')
def xK:Sp:=λa H Q _=>l8 a H Q
abbrev nRl:List aq:=["_law_k","_law_one","_law_other","_law_told","_law_e"]
theorem tw:aE nRl ["_law_k","_law_one","_law_other"] (cg HB):=cZ
def RC(c b x:ae):Ag:=λa H Q=>KW c x "no shape" a H Q\/KW b x "other floor" a H Q
theorem xR0{f I fK l y L:ae}{V O J:ai}(F:aP K "_law_refusal" "_law_refusal" HB f V)(B:mg "FloorError"=some (.ref L))(T:Kf3 K l y L)
  (hS:mg "_law_deed"=some (.ref I)) (FS:aP K "_law_deed" "_law_deed" GH I O) (Z:Binds K O v_ []) (GS:aB P w K mg base (fc P w) 21 I O v_ (xS l y))
  (hK:mg "_law_class_of"=some (.ref fK)) (FK:aP K "_law_class_of" "_law_class_of" HC fK J) (bK:Binds K J ["_law_e"] []) (GK:∀x,ix P w K mg base 1 x fK J ["_law_e"] (RC l y x)):aB P w K mg base aJ 22 f V ["_law_k","_law_one","_law_other"] xK:=by
 refine F.ok tw (λvs H Q E h=>?_) (λbp A M s H vs Q E U h=>?_)
 ·cases h with
  |two k v b d X a S N G e3 e4 h=>subst a;rfl
  |no v b d a N G h q=>subst a;rfl
  |one v b a h q=>subst a;rfl
 ·have jC:aS 1 _:=U.mono 'c';refine aO ⟨_,⟨eI 3 tw.nd nE⟩,?_⟩;refine aO ⟨_,⟨xI0 (i:=4) (FA:=L) (tb:=λE=>_) (th:=λx=>_) rfl rfl rfl tw.nd rfl rfl 'd' B
   (λj4 E=>cm (ip (jw GS U 'd' hS FS.kp Z .nil (xy1 rfl) (aD (pv 0) (aD (pv 1) (aD (pv 2) aH))))))
   (λx=>cm (eI 3 tw.nd (xk9 (GK x) (jC.Hg x) 'd' hK FK.kp bK (aD (pv 4) aH))))⟩,?_⟩
  refine fV ⟨_,⟨cj (pv 3)⟩,?_⟩;cases h with
  |two k v b d X a S C D jB b2 cs=>
   subst a;refine⟨_,rfl,_,rfl,_,rfl,.two k v b rfl S ⟨v,b,d,X,rfl,C,D,jB,b2,?_⟩⟩;cases cs with
   |no h e=>exact .no h λg c=>⟨l,rfl,T.fs,λW j=>⟨_,rfl,.inl ⟨rfl,aX,λr u=>⟨_,rfl,e r (KY c j u)⟩⟩⟩⟩
   |pZ n m p R rows aN N c1 G c2 h e=>exact .pZ n m p R rows aN N c1 G c2 h λg c=>⟨y,rfl,T.fo,λW j=>⟨_,rfl,.inr ⟨rfl,aX,λr u=>⟨_,rfl,e r (KY c j u)⟩⟩⟩⟩
   |yes h=>
    obtain⟨⟨t,Y,n,p,R,rows,j6,rfl,rfl,h1,h2,hl⟩,q⟩:=h;exact .yes ⟨t,Y,n,p,R,rows,j6,rfl,h1,h2,hl,λg x c=>⟨_,rfl,q g c⟩⟩
  |no v b d a C D no q=>
   subst a;refine⟨_,rfl,_,rfl,_,rfl,.one v b rfl (.no v d rfl C D no λg c=>?_)⟩;exact⟨l,rfl,T.fs,λW j=>⟨_,rfl,.inl ⟨rfl,aX,λr u=>⟨_,rfl,q r (KY c j u)⟩⟩⟩⟩
  |one v b a h q=>
   subst a;obtain⟨t,n,p,rows,rfl,h1⟩:=h;exact⟨_,rfl,_,rfl,_,rfl,.one _ b rfl (.yes t n p rows rfl h1 λg x c=>⟨_,rfl,q g c⟩)⟩
end
end Pr
namespace L2
open PySem PySem.Spec PyProof.Rows
theorem Uq{it t:ae}{ys:Array aa}(ne:t≠it):∀(n i:Nat)(s:af)(Q:List aa->af->Prop),s.heap.IsListIter it t i->s.heap.IsList t ys->i+n<=ys.size ->
  (∀c,Heap.IsListIter c it t (i+n)->Heap.SameBut it s.heap c->Q ((ys.toList.drop i).take n) {s with heap:=c})->ag (aj prog w) A (draw (.ref it) n) Q E s
 |0,i,s,Q,b,_,_,a=>by
  show ag _ _ (pure []) Q E s;exact Zc (by simpa using a s.heap b (Heap.SameBut.refl ..))
 |n+1,i,s,Q,b,f,l,a=>by
  have d:i<ys.size:=by lia
  show ag _ _ (pyNext (.ref it) >>= _) Q E s;refine Za (wpAny_pyNext_list_item b f (x:=ys[i]) (by simp[d]) λk1 k e=>?_);refine Za (ZK (Uq ne n (i+1) _ _ k (f.extBut e.extBut ne) 'a' λk2 j h=>Zc ?_));have g:ys.toList.drop i=ys[i]::ys.toList.drop (i+1):=by simp[List.drop_eq_getElem_cons,d]
  have:=a k2 (by rw[show i+(n+1)=i+1+n by lia];exact j) (e.trans h);rw[g,List.take_succ_cons]at this;exact this
theorem qx7{s:af}{t:ae}{ys:Array aa}{Q:List aa->af->Prop}(i:A.handled=none)(a:s.heap.IsList t ys)
  (g:∀f,Heap.ExtBut s.heap.objs.size s.heap f->Q ys.toList {s with heap:=f}):ag (aj prog w) A (unpackItems (.ref t) ys.size none) Q E s:=by
 have c:t≠s.heap.objs.size:=by obtain⟨o,k,_⟩:=a;exact Zz (Zl k)
 unfold unpackItems;refine Za ?_;unfold notIterableAtAll;refine Za (wpAny_specialOf a.typeIs slot_list_iter.lookup ?_);refine Zc ?_;simp only[Zv,Z0];refine Za (ZK (Xj a ?_));refine Za (ZK (Uq c ys.size 0 _ _ ⟨_,Zh _ rfl,rfl,rfl⟩ (a.at λo e=>Zb _ e) 'a' λk1 m d=>?_));have l:List.take ys.size (List.drop 0 ys.toList)=ys.toList:=by
  rw[List.drop_zero];exact WG 'b'
 rw[l];rw[Zi 'b'];have h:Heap.IsList k1 t ys:=(a.at λo e=>Zb _ e).extBut d.extBut c;refine Za (ZK (wpAny_pyNext_list_end i m h 'b' λk2 j=>?_));simp only[Option.isSome_none,Zv,Z0];refine Zc (g k2 λb o hb e=>j b o hb (d.extBut b o hb (Zb _ e)))
section
variable{X:Cx}{pos:aA}
def Qq(K:PySem.W.Frag)(n:Nat)(t:rR):TG:=λv c H Q=>∃a b,v=.ref a/\bY K H a b/\b.length=n/\t b c H Q
theorem RB{es:List ar}{k:Nat}{t:rR}{n:Nat}(hc:X.calm=true)(h:Ge X es t)
  (l:(assignEach es X.env).length=n:=by rfl) (j:(assignEach es X.env).findIdx? (·.1)=none:=by rfl):PG X (.Tuple es k pos) (Qq X.K n t):=by
 intro i s f H v u Q I r c;obtain⟨a,x,w,A,B,c⟩:=c;subst w;cases r;obtain⟨d,g,y,D⟩:=I.list A;have C:s.heap.IsList a d.toArray:=y.isList;rw[assign_Tuple];refine Za (WK ?_);unfold unpack;rw[show(assignEach es X.env).length=d.toArray.size by simp[l,<- B,g.length],j];refine Za (ZK (qx7 (I.ok.hd hc) C λm p=>?_));have q:Inv X i f H {s with heap:=m}:=I.kept (t':=s.toks) λb o e=>p b o (Zz (Zl e)) e;exact h i _ f H x _ Q q (by simpa using g) c
end
end L2
namespace Pr
open PySem L2 Qf
theorem AU{H:Hp}{t:ae}{n tp:Nat}{rows:List Row}(h:cD H t n tp rows):aV H (.ref t) (oo n tp rows):=aV.of (xd0 h)
theorem AK{n tp:Nat}{rows:List Row}(c:rows.length<=900):g9 (oo n tp rows):=λa b d e=>by
 unfold oo at e;injection e with e
 injection e with _ e
 injection e with _ e
 injection e with e _
 injection e with e
 rw[<- e,Ze];exact c
section
variable{H:Hp}{Q:VK}{k:Nat}{v v2:V}{d d2:PyData}
theorem xr2(g:k<8)(a:aV H v d)(b:g9 d)(f:aV H v2 d2)(e:g9 d2)(no:¬fw d)(q:∀c,aC H c->Q (.str "no shape") c):l8 [.int (k:Nat),v,v2] H Q:=by
 by_cases h:k<7
 ·exact .two k v v2 d d2 rfl h a b f e (.no (λz=>no z.1) q)
 ·have:k=7:=by lia
  subst this;exact .no v v2 d rfl a b no q
theorem xL8(f:k<7)(b:aV H v d)(e:g9 d)(g:aV H v2 d2)(c:g9 d2)(no:¬(fw d/\fw d2))(q:∀a,aC H a->Q (.str "no shape") a):l8 [.int (k:Nat),v,v2] H Q:=.two k v v2 d d2 rfl f b e g c (.no no q)
theorem xL9(j:k<8)(h:se H v v2)(q:∀a,aC H a->Q (.str "none") a):l8 [.int (k:Nat),v,v2] H Q:=by
 by_cases e:k<7
 ·obtain⟨t,c,n,b,i,rows,f,rfl,rfl,h1,h2,g⟩:=id h;exact .two k _ _ _ _ rfl e (AU h1.1) (AK h1.2.2) (AU h2.1) (AK h2.2.2) (.yes ⟨h,q⟩)
 ·have:k=7:=by lia
  subst this;obtain⟨t,c,n,b,i,rows,f,rfl,rfl,h1,h2,g⟩:=h;exact .one _ _ rfl ⟨t,n,b,rows,rfl,h1⟩ q
theorem Rz{t t':ae}{n m tp c:Nat}{rows a:List Row}(e:k<7)(h1:gO H t n tp rows)(h2:gO H t' m c a)(f:n≠m)(q:∀b,aC H b->Q (.str "other floor") b):l8 [.int (k:Nat),.ref t,.ref t'] H Q:=
 .two k _ _ _ _ rfl e (AU h1.1) (AK h1.2.2) (AU h2.1) (AK h2.2.2) (.pZ n m tp c rows a rfl h1.2.1 rfl h2.2.1 f q)
theorem xi4{a:Hp}(h:se H v v2)(s:aC H a):se a v v2:=by
 obtain⟨t,b,n,f,g,rows,c,rfl,rfl,h1,h2,e⟩:=h;exact⟨t,b,n,f,g,rows,c,rfl,rfl,mm h1 s,mm h2 s,e⟩
end
section
variable{mg:aq->Option aa}{base:ao}
abbrev nDr:List aq:=["_law_k","_law_shapes","_law_odd_here","_law_one","_law_other","_law_far","_law_pair"]
abbrev tZ:List aq:=["_law_k","_law_shapes","_law_odd_here"]
theorem qu:aE nDr tZ (cg HZ):=cZ
inductive Ci(vs:List V)(H:Hp)(Q:VK):Prop
 |mk(k:Nat)(L t t' t3:ae)(v:V)(d:PyData)(n m tp bu xx:Nat)(rows aN mf:List Row)(e0:vs=[.int (k:Nat),.ref L,v])(hk:k<8)(hL:H L=some (.lst [.ref t,.ref t',.ref t3]))(h1:gO H t n tp rows)(h2:gO H t' n bu aN)(h3:gO H t3 m xx mf)(hn:n≠m)
  (hl:2*rows.length+2*aN.length+rows.length*aN.length<=890) (hd:aV H v d) (no:ki d) (q:∀H',aC H H'->Q (.bl true) H')
def xR:Sp:=λa H Q _=>Ci a H Q
theorem xR1{f fR:ae}{fd dJ:ai}(F:aP K "_law_deed_right" "_law_deed_right" HZ f fd)
  (C:mg "_law_refusal"=some (.ref fR)) (X:aP K "_law_refusal" "_law_refusal" HB fR dJ) (T:Binds K dJ ["_law_k","_law_one","_law_other"] []) (O:aB P w K mg base aJ 22 fR dJ ["_law_k","_law_one","_law_other"] xK):aB P w K mg base aJ 23 f fd tZ xR:=by
 refine F.ok qu (λvs H Q E h=>?_) (λbp A outer s H vs Q E W h=>?_)
 ·obtain⟨k,L,t,I,t3,v,d,n,m,tp,bu,xx,rows,aN,mf,rfl,_⟩:=h
  rfl
 ·obtain⟨k,L,t,I,t3,v,d,n,m,tp,bu,xx,rows,aN,mf,rfl,hk,hL,h1,h2,h3,hn,hl,u,no,q⟩:=h;refine aO ⟨_,⟨m6 (pv 1) (RB rfl (e_ (dj 3 qu.nd) (e_ (dj 4 qu.nd) (e_ (dj 5 qu.nd) oz))))⟩,?_⟩;refine aO ⟨_,⟨c9 (PW.pt (jr (dI qH (df.go ⟨bZ O W C X.kp T (aD (pv 0) (aD (pv 2) (aD (pv 3) aH)))⟩) nE (cP _)) (m7 (dI qH (df.go ⟨bZ O W C X.kp T (aD (pv 0) (aD (pv 3) (aD (pv 4) aH)))⟩) nE (cP _))))) m8 c_⟩,?_⟩;refine aO ⟨_,⟨c9 (dI mY (pv 0) aR (cP _)) (cm (cj js)) c_⟩,?_⟩;refine aO ⟨_,⟨o_ Yj rfl (piL K rfl (df.go ⟨(@iI _ _ _ _ (@cG.pa _ _ _ (cG.cons (BM (pv 3) (pv 2)) (cG.cons (BM (pv 2) (pv 5)) (cG.cons (BM (pv 5) (pv 2)) (cG.cons (BM (pv 2) (pv 2)) cG.nil))))))⟩)) (dj 6 qu.nd)
    (oW.go (.one ⟨c9 (dI qH (df.go ⟨bZ O W C X.kp T (cw.go (.cons ⟨pv 0⟩ (.cons ⟨cO gb (pv 6) aR⟩ (.cons ⟨cO gb (pv 6) aR⟩ .nil rfl) rfl) rfl))⟩) nE (cP _)) m8 c_⟩))⟩,?_⟩
  refine fV ⟨_,⟨cj (su (oy mY (df.go ⟨bZ O W C X.kp T (aD (pv 0) (aD (pv 3) (aD (pv 5) aH)))⟩) nE (cP _)) (sy (oy mY (df.go ⟨bZ O W C X.kp T (aD (pv 0) (aD (pv 5) (aD (pv 4) aH)))⟩) nE (cP _))))⟩,?_⟩;have yG:=AU h1.1;have B:=AU h3.1;have k9:=AK (n:=n) (tp:=tp) h1.2.2;have wD:=AK (n:=m) (tp:=xx) h3.2.2;have hB:se H (.ref t) (.ref I):=⟨t,I,n,tp,bu,rows,aN,rfl,rfl,h1,h2,hl⟩;refine⟨_,rfl,L,_,rfl,bY.of hL,rfl,_,_,rfl,_,_,rfl,_,_,rfl,rfl,?_⟩;dsimp only[eZ];refine qE (σ':=[some (.int (k:Nat)),some (.ref L),some v,some (.ref t),some (.ref I),some (.ref t3),none]) rfl ?_;refine⟨_,rfl,_,rfl,_,rfl,xr2 hk u no.1 yG k9 no.2 λH1 s1=>⟨rfl,_,rfl,?_⟩⟩;rw[Zq rfl];refine b_ ⟨_,rfl,_,rfl,_,rfl,xL9 hk (xi4 hB s1) λD s2=>⟨rfl,_,rfl,?_⟩⟩;rw[Zq rfl];refine b_ ?_;have g:=s1.trans s2;refine⟨_,rfl,rfl,_,rfl,?_⟩;by_cases h7:k=7
  ·refine Dx (by rw[h7];rfl) ?_;exact q D g
  refine qC (λz=>h7 (by have:=V.int.inj z;lia)) ?_;have Pj:k<7:=by lia
  let N:Hp->V->Prop:=λHx z=>∃(pt:ae)(a b:V)(e c:PyData),z=.ref pt/\Hx pt=some (.tup [a,b])/\aV Hx a e/\g9 e/\aV Hx b c/\g9 c/\¬(fw e/\fw c)
  have xh:∀Ha Hb z,aC Ha Hb->N Ha z->N Hb z:=λHa Hb z s ⟨pt,a,b,e,c,e1,e2,G,S,J,M,r⟩=>⟨pt,a,b,e,c,e1,s _ _ e2,G.same s,S,J.same s,M,r⟩;have item:∀{i j:Nat}{a b:V}{e c:PyData}{Gp:St},Gp[i]?=some (some a)->Gp[j]?=some (some b)->aV D a e->g9 e->aV D b c->g9 c->¬(fw e/\fw c)->Yl D Gp N (gH (fj [eh i,eh j])):=λ{i j a b e c Gp} e1 e2 G S J M no=>λHx sx Q qx=>
   ⟨_,e1,_,e2,(by show 2<=sizeLine;decide),λpt y=>qx _ _ (bF y) ⟨pt,a,b,e,c,rfl,aX,G.same (sx.trans (bF y)),S,J.same (sx.trans (bF y)),M,no⟩⟩
  refine Ii (H0:=D) (R:=N) xh (aC.refl _) ?_ _ ?_
  ·exact⟨item rfl rfl (yG.same g) k9 (u.same g) no.1 (λz=>no.2 z.2),item rfl rfl (u.same g) no.1 (B.same g) wD (λz=>no.2 z.1),item rfl rfl (B.same g) wD (u.same g) no.1 (λz=>no.2 z.2),item rfl rfl (u.same g) no.1 (u.same g) no.1 (λz=>no.2 z.2),trivial⟩
  refine λl H3 s3 la ra=>⟨(by rw[la];show 4<=sizeLine;decide),λA hA=>?_⟩;have U:=bF (o:=.lst l) hA;have EA:upd H3 A (.lst l) A=some (.lst l):=aX;have RA:∀z∈l,N (upd H3 A (.lst l)) z:=λz hz=>xh _ _ z U (ra z hz);have S4:=(g.trans s3).trans U;generalize upd H3 A (.lst l)=H4 at EA RA S4 ⊢;refine⟨A,rfl,⟨_,bY.of EA⟩,HI (K:=K) (a:=A) (xs:=l) (λj Z Y=>aC H4 Y/\∃w6,Z=[some (.int (k:Nat)),some (.ref L),some v,some (.ref t),some (.ref I),some (.ref t3),w6]) ⟨aC.refl _,_,rfl⟩ (λj Z Y _ h=>bY.of (h.1 _ _ EA)) ?_ ?_⟩
  ·rintro j x Z Y hx ⟨p,w6,rfl⟩;obtain⟨pt,a,b,e,c,rfl,y,G,S,J,M,nn⟩:=RA x (Zo hx);refine⟨_,rfl,_,rfl,pt,_,0,a,rfl,rfl,aQ.of (p _ _ y),rfl,_,rfl,pt,_,1,b,rfl,rfl,aQ.of (p _ _ y),rfl,xL8 Pj (G.same p) S (J.same p) M nn λH6 s6=>⟨rfl,_,rfl,?_⟩⟩;rw[Zq rfl];exact b_ ⟨p.trans s6,_,rfl⟩
  ·rintro Z Y ⟨p,w6,rfl⟩;have S5:=S4.trans p;refine⟨_,rfl,_,rfl,_,rfl,Rz Pj (mm h1 S5) (mm h3 S5) hn λH6 s6=>⟨rfl,_,rfl,?_⟩⟩;rw[Zq rfl];have S6:=S5.trans s6;refine cB ⟨_,rfl,_,rfl,_,rfl,Rz Pj (mm h3 S6) (mm h2 S6) hn.symm λH7 s7=>⟨rfl,?_⟩⟩;rw[Zq rfl];exact q H7 (S6.trans s7)
end
end Pr
namespace Qf
theorem xi5{rows:List Row}{n:Nat}{r:Row}(ok:cz rows)(i:∀x,x<rows.length+2->dp rows x<=n)(f:r.length=4)(d:∀x∈r,x<rows.length+2/\dp rows x<n):
  cz (rows++[r])/\∀x,x<(rows++[r]).length+2->dp (rows++[r]) x<=n:=by
 constructor
 ·intro p g b;by_cases h:p<rows.length
  ·rw[Zm h]at b;exact ok p g b
  ·rw[Zs 'a']at b;have:p-rows.length=0:=by
    have:=(cx b).1;simp at this;lia
   rw[this]at b;have e:g=r:=by simpa using b.symm
   subst e;exact⟨f,λx c=>by have:=(d x c).1;lia⟩
 ·intro x c;rw[Zk]at c;have c:x<rows.length+1+2:=c;by_cases h:x<rows.length+2
  ·rw[LM h];exact i x h
  ·have e:x=rows.length+2:=by lia
   subst e;rw[LL];have l:r≠[]:=λz=>by rw[z]at f;cases f
   obtain⟨a,k⟩:=List.exists_mem_of_ne_nil r l;have h1:mx (r.map (dp rows))<=n-1:=Kd λy m=>by
    obtain⟨q,j,rfl⟩:=ZV.mp m;have:=(d q j).2;lia
   have:=(d a k).2;lia
end Qf
namespace Pr
open PySem L2 Qf
section
variable{mg:aq->Option aa}{base:ao}
abbrev KU:List aq:=["_law_purse_here","_law_n","_law_most","_law_begun","_law_rows_here","_law_k","_law_depths_here","_law_may"]
theorem eF:aE KU ["_law_purse_here","_law_n","_law_most","_law_begun"] (cg yj):=cZ
def LW:Sp:=λc H Q _=>∃(p b:ae)(n most:Nat)(rows0:List Row),c=[.ref p,.int (n:Nat),.int (most:Nat),.ref b]/\ba H p/\cF H b rows0/\b≠p/\cz rows0/\(∀x,x<rows0.length+2->dp rows0 x<=n)/\rows0.length<=100/\most<=100/\n<=12 /\
 ∀(a:Hp)(l:ae)(rows:List Row),bJ p H a->ba a p->H l=none->cF a l rows->cz rows->(∀x,x<rows.length+2->dp rows x<=n)->rows.length<=rows0.length+most->Q (.ref l) a
theorem xr3{f fD fQ fX:ae}{fd eM Qz lQ:ai}(F:aP K "_law_rows" "_law_rows" yj f fd)(B:d_ mg)
  (hD:mg "_law_draw"=some (.ref fD)) (FD:aP K "_law_draw" "_law_draw" tR fD eM) (bD:Binds K eM ["_law_purse_here","_law_many"] [])
  (hQ:mg "_law_quarter"=some (.ref fQ)) (FQ:aP K "_law_quarter" "_law_quarter" HD fQ Qz) (bQ:Binds K Qz ["_law_purse_here","_law_may"] [])
  (hX:mg "_law_depths"=some (.ref fX)) (FX:aP K "_law_depths" "_law_depths" A8 fX lQ) (bX:Binds K lQ ["_law_rows_here"] []):aB P w K mg base aJ 3 f fd ["_law_purse_here","_law_n","_law_most","_law_begun"] LW:=by
 have GD:aB P w K mg base aJ 1 fD eM ["_law_purse_here","_law_many"] yv:=Ax FD;have GQ:aB P w K mg base aJ 2 fQ Qz ["_law_purse_here","_law_may"] Uw:=q32 FQ B hD FD bD;have GX:aB P w K mg base aJ 1 fX lQ ["_law_rows_here"] L5:=TQ FX B;refine F.ok eF (λvs H Q E h=>?_) (λbp A outer s H vs Q E hr h=>?_)
 ·obtain⟨p,b0,n,k,g,rfl,_⟩:=h
  rfl
 ·obtain⟨p,b0,n,k,g,rfl,hp,hB,wU,DB,hd0,hl0,hm,hn,q⟩:=h;have jC:aS 1 _:=hr.mono 'c';refine⟨_,dG (eI 4 eF.nd (hZ Ie 'd' B.list Yu (aD (pv 3) aH)))
   (dG (o_ Yj rfl (CV 'd' B.range (aD (cy pP (bZ GD jC hD FD.kp bD (aD (pv 0) (aD (cy iR (pv 2) aR) aH)))
     (hZ HV 'd' B.int YW (aD (oy Du (pv 1) aR (cP _)) aH))) aH)) (dj 5 eF.nd)
    (dG (eI 6 eF.nd (bZ GX jC hX FX.kp bX (aD (pv 4) aH)))
    (dG (eI 7 eF.nd (q89 KU (cg yj) rfl rfl rfl eF.nd (CV 'd' B.range (aD (cQ iq 'd' B.len ZF (aD (pv 6) aH)) aH))
     (λcl C fp aG aK=>dI mi (cO (zk K rfl) (pv 7) (pv 0)) (pv 2) (cP _)) (λcl C fp aG aK=>pv 0)))
    (cm (ip (vo Ye Ym Yn tP (pv 4) (aD (hZ Ih 'd' B.tuple ZE (aD
     (oB KU (cg yj) rfl rfl rfl eF.nd (CV 'd' B.range (aD aR aH)) (λcl C fp aG aK=>bZ GQ hr hQ FQ.kp bQ (aD (pv 1) (aD (pv 8) aH)))) aH)) aH)))))))
   (cm (cj (pv 4)))),?_⟩
  obtain⟨R,wP,EM,w_⟩:=id hB;refine⟨_,rfl,b0,_,rfl,.inl (bY.of wP),λl W=>?_⟩;have sl:aC H (upd H l (.lst (R.map V.ref))):=bF W;have Nw:p≠l:=by obtain⟨a,b,e,_⟩:=hp;exact ck e W
  refine⟨_,rfl,_,rfl,_,_,rfl,rfl,p,k+1,rfl,hp.same sl,by lia,by lia,λd H1 hd b1 jJ=>?_⟩;refine⟨_,rfl,_,_,rfl,rfl,.inr ⟨_,rfl,_,_,rfl,rfl,.inr ?_,?_⟩⟩
  ·constructor<;>split<;>decide
  ·have hcnt:(d:Int)*(if decide ((0:Int)<(n:Int))=true then 1 else 0)<=d:=by split<;>lia
   have hcnt0:0<=(d:Int)*(if decide ((0:Int)<(n:Int))=true then 1 else 0):=by split<;>lia
   refine⟨_,rfl,by lia,by lia,LD (lo:=0) (n:=((d:Int)*(if decide ((0:Int)<(n:Int))=true then 1 else 0)).toNat) (λi σ I=>∃(rows:List Row)(v5 v6 v7:Option V),σ=[some (.ref p),some (.int (n:Nat)),some (.int (k:Nat)),some (.ref b0),some (.ref l),v5,v6,v7]/\bJ p H I/\ba I p/\cF I l rows/\cz rows/\(∀x,x<rows.length+2->dp rows x<=n)/\rows.length<=g.length+i) ?_ ?_ ?_⟩
   ·refine⟨g,none,none,none,rfl,(bJ.of sl).trans b1,jJ,⟨R,b1 _ _ aX (Z2 Nw),EM,λi b r m v=>b1 _ _ (dZ (w_ i b r m v) W) ?_⟩,DB,hd0,by lia⟩;intro z;subst z;obtain⟨a,c,e,_⟩:=hp;have:=w_ i b r m v;rw[this]at e;cases e
   ·rintro i σ I hi ⟨rows,v5,v6,v7,rfl,b2,Z,Y,mq,jB,jR⟩;have DE:0<n:=by
     by_cases z:0<n
     ·exact z
     ·rw[Zy 'a']at hi;simp at hi
    have fY:i<d:=by lia
    refine⟨_,rfl,l,rows,rfl,Y.zs,mq,by lia,λH3 D X jZ=>?_⟩;refine⟨_,rfl,D,_,rfl,.inl (bY.of jZ),_,rfl,by lia,(by rw[dM,sC];lia),λD2 kJ=>LK kJ (λi=>decide (dp rows i<n)) (λi=>.int (i:Nat)) xl3 (by rw[dM,sC];exact ml 'a') ?_ ?_⟩
    ·rintro j x H4 L rfl O os ho Q1 Q2 q1 q2;obtain⟨o1,rfl⟩:=L2.Ni ho
     ·
      have yL:j<rows.length+2:=by
       rw[dM,sC]at L;lia
      refine⟨_,rfl,_,rfl,D,_,(j:Int),.int (dp rows j:Nat),rfl,rfl,bY.of (O _ _ jZ),sj (AW yL),_,rfl,_,_,rfl,rfl,_,rfl,?_⟩;have e:decide (((dp rows j:Nat):Int)<(n:Int))=decide (dp rows j<n):=by
       congr 1;exact propext ⟨λz=>by lia,λz=>by lia⟩
      rw[e];refine dD (λhc=>?_) (λhc=>?_)
      ·exact⟨_,rfl,q2 hc H4 (aC.refl _)⟩
      ·exact q1 (Vg.mpr hc) H4 (aC.refl _)
    ·intro H4 O kY;have ems:(((List.range ((vN (fm rows)).length:Int).toNat).filter λi=>decide (dp rows i<n)).map λi=>V.int (i:Nat))=vN ((List.range (rows.length+2)).filter λi=>decide (dp rows i<n)):=by
      rw[dM,sC,YU];rfl
     rw[ems]at kY;generalize O7:(List.range (rows.length+2)).filter (λi=>decide (dp rows i<n))=M at kY;have jO:∀x∈M,x<rows.length+2/\dp rows x<n:=λx G=>by
      rw[<- O7]at G;obtain⟨h1,h2⟩:=WS.mp G;exact⟨ZX.mp h1,ZI h2⟩
     have T:0∈M:=by
      rw[<- O7];refine WS.mpr ⟨ZX.mpr 'a',Zq ?_⟩;rw[so 'c'];exact DE
     have hmsl:M.length<=rows.length+2:=by
      rw[<- O7];exact ZN (List.length_filter_le _ _) 'b'
     have vD:=(Z.same X).same O;have yY:=(Y.same X).same O;have U:D2≠p:=by
      obtain⟨a,b,e,_⟩:=Z.same X;exact(ck e kJ).symm
     obtain⟨bs,jK,j7,jA⟩:=id yY;refine⟨_,rfl,.inl ⟨rfl,_,bY.of jK⟩,_,rfl,by decide,by decide,λD3 vB=>?_⟩;have DG:p≠D3:=by obtain⟨a,b,e,_⟩:=vD;exact ck e vB
     refine xc7 (p:=p) vB DG (λN=>ba N p) (λ_ y=>∃x:Nat,y=.int (x:Nat)/\(x<2\/x∈M)) 'c' (λN o ⟨a,b,e,r⟩=>⟨a,b,by rw[bo DG];exact e,r⟩) vD ?_ ?_
     ·intro j N L J i5 Q' hq;refine⟨_,rfl,_,rfl,p,D2,M,rfl,i5,J _ _ kY U,(λz=>by rw[z]at T;cases T),by lia,U,λx H6 G b6 vL=>hq _ _ b6 vL ⟨x,rfl,G⟩⟩
     ·intro ys N J i5 hd5 jU jS;obtain⟨r,rfl,OD⟩:=SF jS;rw[dM]at jU;have Jk:r.length=4:=jU;refine⟨D3,_,rfl,.inl ⟨bY.of hd5,λt S=>?_⟩⟩;have vw:l≠p:=Z2 Nw;have nbp:∀b∈bs,b≠p:=λb hb z=>by
       obtain⟨j,L,e⟩:=ZM.mp hb;obtain⟨a,c,ep,_⟩:=vD;have:=jA j b (rows[j]'(by lia)) (by simp[L,e]) (by simp[show j<rows.length by lia]);rw[z,ep]at this;cases this
      have EO:=dZ (u:=.tup (vN r)) (J _ _ jK vw) S;refine⟨l,_,.ref t,rfl,rfl,EO,by rw[Ze,j7];exact ml 'a',?_⟩;have ntl:t≠l:=(ck (J _ _ jK vw) S).symm;obtain⟨g1,g2⟩:=xi5 mq jB Jk λx G=>by
       rcases OD x G with z|z
       ·exact⟨by lia,by rw[so z];exact DE⟩
       ·exact jO x z
      have BB:∀b o,H b=some o->b≠p->upd (upd N t (.tup (vN r))) l (.lst (bs.map V.ref++[.ref t])) b=some o:=λb o e nb=>by
       rw[bo (ck e W)];exact dZ (J _ _ (O _ _ (X _ _ (b2 _ _ e nb))) nb) S
      refine⟨rows++[r],_,_,_,rfl,BB,?_,⟨bs++[t],?_,?_,?_⟩,g1,g2,by rw[Zk];show rows.length+1<=_;lia⟩
      ·obtain⟨a,b,e,rr⟩:=i5;exact⟨a,b,by rw[bo Nw];exact dZ e S,rr⟩
      ·rw[aX,ZW];rfl
      ·rw[Zk,Zk,j7];rfl
      ·intro j b r0 m v;by_cases L:j<rows.length
       ·rw[Zm 'a']at m;rw[Zm L]at v;have hb:=jA j b r0 m v;have nbl:b≠l:=λz=>by rw[z,jK]at hb;cases hb
        rw[bo nbl];exact dZ (J _ _ hb (nbp b (Zo m))) S
       ·rw[Zs 'a']at m;rw[Zs 'a']at v;have:j-rows.length=0:=by
         have:=(cx v).1;simp at this;lia
        rw[this]at v;rw[j7,this]at m;have eb:b=t:=by simpa using m.symm
        have er:r0=r:=by simpa using v.symm
        rw[eb,er,bo ntl,aX]
   ·rintro σ I ⟨rows,v5,v6,v7,rfl,b2,Z,Y,mq,jB,jR⟩;exact⟨_,rfl,q I l rows b2 Z W Y mq jB 'a'⟩
theorem nu:aE ["_law_number","_law_kept","_law_found","_law_quarter_here"] ["_law_number","_law_kept","_law_found"] (cg GJ):=cZ
def Ry(d:Nat):Sp:=λg H Q _=>∃(c e:ae)(x:Nat)(a:List Row)(b:List Nat),g=[.int (x:Nat),.ref c,.ref e]/\cF H c a/\c≠e/\2<=a.length/\cz (a.drop 2)/\a.length<=1190900/\x<a.length/\dp (a.drop 2) x<=d/\dX (a.drop 2) b /\
 H e=some (.dK (fK b))/\∀f,bJ e H f->f e=some (.dK (fK (cu (a.drop 2) d b x)))->Q .cA f
theorem xE6{f:ae}{V:ai}(F:aP K "_law_ends" "_law_ends" GJ f V)(B:d_ mg)(hE:mg "_law_ends"=some (.ref f))(bE:Binds K V ["_law_number","_law_kept","_law_found"] []):∀d,aB P w K mg base aJ (d+1) f V ["_law_number","_law_kept","_law_found"] (Ry d):=by
 intro d
 induction d with
 |zero=>
  refine F.ok nu (λY H Q E h=>?_) (λbp A g s H Y Q E M h=>?_)
  ·obtain⟨v,e,x,a,b,rfl,_⟩:=h
   rfl
  ·obtain⟨v,e,x,a,b,rfl,W,S,h2,ok,hn,hx,J,R,c,q⟩:=h;have O:A.units+3+1<cLine:=by
    have h2:A.units+3+16*0+200<cLine:=M.un;lia
   have G:=uS ok (by rw[Z3];lia) J;refine⟨_,cm (c9 (PW.pt (Sb (dI Du (pv 0) aR (cP _)) (V7 (uZ (HU O (pv 0) (pv 2)))))) m8 c_),?_⟩;refine⟨_,rfl,_,_,rfl,rfl,_,rfl,?_⟩;exact qC (show ¬(1:Int)<(x:Int) by lia) (b_ (q H (bJ.refl e H) c))
 |succ d ih=>
  refine F.ok nu (λY H Q E h=>?_) (λbp A g s H Y Q E M h=>?_)
  ·obtain⟨v,e,x,a,b,rfl,_⟩:=h
   rfl
  ·obtain⟨v,e,x,a,b,rfl,W,S,h2,ok,hn,hx,J,R,c,q⟩:=h;have O:A.units+3+1<cLine:=by
    have h2:A.units+3+16*(d+1)+200<cLine:=M.un;lia
   refine⟨_,cm (c9 (PW.pt (Sb (dI Du (pv 0) aR (cP _)) (V7 (uZ (HU O (pv 0) (pv 2))))))
    (dG (o_ Yj rfl (sr (cO jv (pv 1) (pv 0))) (dj 3 nu.nd)
     (cm (ip (bZ ih M hE F.kp bE (aD (pv 3) (aD (pv 1) (aD (pv 2) aH)))))))
    (cm (AE O (pv 2) (pv 0) (cy iR (cQ q71 'd' B.len ZF (aD (pv 2) aH)) aR) 'd'))) c_),?_⟩
   refine⟨_,rfl,_,_,rfl,rfl,_,rfl,?_⟩;have oO:x<(a.drop 2).length+2:=by rw[Z3];lia
   have N:cu (a.drop 2) (d+1) b x=if x<2\/x-2∈b then b else((a.drop 2).getD (x-2) []).foldl (cu (a.drop 2) d) b++[x-2]:=rfl
   refine dD (λhc=>?_) (λhc=>?_)
   ·have G:¬x<2:=λz=>by have:=ZI hc;lia
    have ek:(Sum.inl (x:Int):Key)=eQ (x-2):=by
     show(Sum.inl (x:Int):Key)=Sum.inl ((x-2+2:Nat):Int);rw[show x-2+2=x by lia]
    have dg:cS H e (.int (x:Int)) (br (fK b) (Sum.inl (x:Int))):=cS.k (k:=Sum.inl (x:Int)) c;refine⟨_,rfl,_,rfl,e,_,rfl,dg,_,rfl,?_⟩;unfold fK;rw[ek,tN CJ];by_cases C:x-2∈b
    ·rw[Zr C];rw[N,Zr (.inr C)]at q;exact b_ (q H (bJ.refl e H) c)
    ·rw[Zi C];rw[N,Zi (by rintro(z|z);exact G z;exact C z)]at q;refine cB ?_;have j8:x-2<(a.drop 2).length:=by lia
     have l:=ou j8;have eg0:(a.drop 2).getD (x-2) []=(a.drop 2).getD (x-2) []:=rfl;generalize EB:(a.drop 2).getD (x-2) []=r at q l;have U:a[x]?=some r:=by
      rw[Ws,show 2+(x-2)=x by lia]at l;exact l
     obtain⟨bs,Z,j7,jA⟩:=id W;have vU:dp (a.drop 2) (x-2+2)<=d+1:=by rw[show x-2+2=x by lia];exact J
     have Bp:bs[x]?=some (bs[x]'(by lia)):=by simp[show x<bs.length by lia]
     have k8:=jA x _ r Bp U;refine⟨_,rfl,_,rfl,v,_,(x:Int),.ref (bs[x]'(by lia)),rfl,rfl,bY.of Z,kr (by rw[Zf,Bp];rfl),_,rfl,⟨_,aQ.of k8⟩,
      CD (K:=K) (xs:=vN r) (λi L j=>bJ e H j/\j e=some (.dK (fK ((r.take i).foldl (cu (a.drop 2) d) b)))/\∃v3,L=[some (.int (x:Nat)),some (.ref v),some (.ref e),v3])
      ⟨bJ.refl e H,c,none,rfl⟩ (λi L j _ ⟨p,_⟩=>aQ.of (p.cC c (λu z=>by cases z) _ _ k8)) ?_ ?_⟩
     ·rintro i y L j hy ⟨p,I,v3,rfl⟩;obtain⟨m,T,rfl⟩:=mZ hy;obtain⟨b1,b2⟩:=yi ok l vU (Zo T);refine⟨_,rfl,_,rfl,_,rfl,v,e,m,a,(r.take i).foldl (cu (a.drop 2) d) b,rfl,W.but p S c (λu z=>by cases z),S,h2,ok,hn,by rw[Z3]at b1;lia,b2,CQ ok l vU _ b (λz X=>WQ X) R,I,λH3 s3 PQ=>⟨p.trans s3,?_,_,rfl⟩⟩;have Bd:=(cx T).1;have O9:=(cx T).2;rw[<- YI Bd,WF,O9];exact PQ
     ·rintro L j ⟨p,I,v3,rfl⟩;rw[dM,Y9]at I;have pf:=CQ ok l vU r b (λz X=>X) R;have D:=(pU ok (d+1) b x R oO J).1;rw[N,Zi (by rintro(z|z);exact G z;exact C z),EB]at D;have yS:x-2∉r.foldl (cu (a.drop 2) d) b:=λz=>(Yk.mp D.nd).2.2 (x-2) z (x-2) 'b' rfl;have jD:=CM pf;rw[Z3]at jD;have el:((fK (r.foldl (cu (a.drop 2) d) b)).length:Int)+2=((2+(r.foldl (cu (a.drop 2) d) b).length:Nat):Int):=by
       unfold fK;rw[yg];lia
      have dq:gZ j e (.int (x:Int)) (.int (((fK (r.foldl (cu (a.drop 2) d) b)).length:Int)+2)) (upd j e (.dK (fK (r.foldl (cu (a.drop 2) d) b++[x-2])))):=by
       rw[el];have ep:fK (r.foldl (cu (a.drop 2) d) b++[x-2])=putK (fK (r.foldl (cu (a.drop 2) d) b)) (Sum.inl (x:Int)) (.int (2+(r.foldl (cu (a.drop 2) d) b).length:Nat)):=by
        rw[ek];exact(MC CJ yS).symm
       rw[ep];refine gZ.k (k:=Sum.inl (x:Int)) I ?_;unfold fK;rw[yg];exact ml 'a'
      exact⟨_,rfl,e,_,rfl,I,_,_,rfl,rfl,_,rfl,_,rfl,e,_,rfl,dq,q _ (p.trans bJ.upd) aX⟩
   ·have G:x<2:=by
     by_cases z:x<2
     ·exact z
     ·exact absurd (Zq (show(1:Int)<(x:Int) by lia)) hc
    rw[N,Zr (.inl G)]at q;exact b_ (q H (bJ.refl e H) c)
end
end Pr
namespace Qf
theorem xE7{rows:List Row}{i:Nat}{r:Row}(h:rows[i]?=some r):mg (rows.take (i+1))=C8 (mg (rows.take i)) r:=by
 have b:=(cx h).1;have a:=(cx h).2;rw[<- Mh,<- a,YI b]
theorem Se{rows:List Row}(ok:cz rows)(i:Nat):cz (rows.take i):=λp r a=>by
 rw[Va]at a;split at a
 ·exact ok p r a
 ·cases a
theorem Rx(rows:List Row):(mg rows).2.length<=rows.length+2:=by
 induction rows using HF with
 |h0=>decide
 |h1 l r a=>
  rw[Mh,Zk];show(kz (mg l).2 _).length<=_;unfold kz;split
  ·simp;lia
  ·rw[Zk];simp;lia
end Qf
namespace Pr
open PySem L2 Qf
abbrev Kv:List aq:=["_law_n","_law_top","_law_rows_here","_law_here","_law_known","_law_row","_law_look","_law_kept","_law_found","_law_names","_law_told"]
abbrev oN:List aq:=["_law_number","_law_n","_law_top","_law_rows_here","_law_here","_law_known","_law_row","_law_look","_law_kept","_law_found","_law_names","_law_told"]
theorem xi8:oN.Nodup:=by decide +kernel
section
variable{mg:aq->Option aa}{base:ao}
theorem cM:aE Kv ["_law_n","_law_top","_law_rows_here"] (cg AX):=cZ
def Mq:Sp:=λd H Q _=>∃(c:ae)(n a:Nat)(rows:List Row),d=[.int (n:Nat),.int (a:Nat),.ref c]/\ft H c rows/\cz rows/\rows.length<=1190890/\n<=12/\a<rows.length+2/\dp rows a<=n /\
 ∀(b:Hp)(t:ae),aC H b->Il b t n (nm (cu (sk rows) n [] (tT rows a)) (tT rows a)) (told (sk rows) (cu (sk rows) n [] (tT rows a)))->(told (sk rows) (cu (sk rows) n [] (tT rows a))).length<=rows.length->Q (.ref t) b
theorem xi9{f fE:ae}{fd fdE:ai}(F:aP K "_law_shape" "_law_shape" AX f fd)(B:d_ mg)(hE:mg "_law_ends"=some (.ref fE))(FE:aP K "_law_ends" "_law_ends" GJ fE fdE)(bE:Binds K fdE ["_law_number","_law_kept","_law_found"] []):
  aB P w K mg base aJ 14 f fd ["_law_n","_law_top","_law_rows_here"] Mq:=by
 have GE:∀d,aB P w K mg base aJ (d+1) fE fdE ["_law_number","_law_kept","_law_found"] (Ry d):=xE6 FE B hE bE;refine F.ok cM (λvs H Q E h=>?_) (λbp A outer s H vs Q E hr h=>?_)
 ·obtain⟨rp,n,R,rows,rfl,_⟩:=h
  rfl
 ·obtain⟨rp,n,R,rows,rfl,hR,ok,Z,hn,kF,hd,q⟩:=h;have hu:A.units+3+1<cLine:=by
   have h2:A.units+3+16*13+200<cLine:=hr.un;lia
  have hu0:A.units+3<cLine:=by lia
  have hrE:aS (n+1) _:=hr.mono 'a';refine aO ⟨_,⟨eI 3 cM.nd (iI (aD aR (aD aR aH)))⟩,?_⟩;refine aO ⟨_,x_ (i:=4) cM.nd rfl (by first|left;rfl|right;rfl) (xc5 hu0) rfl rfl,?_⟩;refine aO ⟨_,⟨o_ Yj rfl (RM (pv 2)) (dj 5 cM.nd) (oW.go (.cons
    ⟨eI 6 cM.nd (hZ Ih 'd' B.tuple ZE (aD (oB Kv (cg AX) rfl rfl rfl cM.nd (sr (pv 5)) (λcl C fp aG aK=>cO (zk K rfl) (pv 4) (pv 0))) aH))⟩
    (.one ⟨ip (df.go (Ij Ye Ym Yn tP ⟨pv 3⟩ (.cons
     (Ij PySem.F.plainAttrs_dict WW PySem.F.type_dict_setdefault (qJ4 hu) ⟨pv 4⟩ (.cons ⟨pv 6⟩ (.cons ⟨cQ UI 'd' B.len ZF (aD (pv 4) aH)⟩ .nil rfl) rfl)) .nil rfl)))⟩)))⟩,?_⟩
  refine aO ⟨_,⟨eI 7 cM.nd (hZ (q22 rfl) 'd' B.list Yu (aD (pv 4) aH))⟩,?_⟩;refine aO ⟨_,⟨eI 8 cM.nd (MJ)⟩,?_⟩;refine aO ⟨_,⟨ip (bZ (GE n) hrE hE FE.kp bE (aD (cO jv (pv 3) (pv 1)) (aD (pv 7) (aD (pv 8) aH))))⟩,?_⟩;refine aO ⟨_,x_ (i:=9) cM.nd rfl (by first|left;rfl|right;rfl) (T4 (.cons AB AB (.cons AB AB .nil)) rfl rfl (λz=>nomatch z) 'c') rfl rfl,?_⟩;refine aO ⟨_,⟨ip (vo PySem.F.plainAttrs_dict PySem.F.slot_dict_update PySem.F.type_dict_update xb6 (pv 9) (aD (pv 8) aH))⟩,?_⟩;refine aO ⟨_,⟨xy9 (i0:=10) Kv (cg AX) rfl rfl rfl cM.nd rfl rfl (xA0 (pv 8)) (λcl C fp aG aK=>df.go ⟨hZ (l6 K rfl) 'd' B.tuple ZE (aD (oB oN _ rfl rfl rfl xi8 (vt K rfl (cO (zk K rfl) (pv 8) (pv 0))) (λcl2 C2 fp2 Y L=>AF hu (pv 11) (pv 0) (λ_ _=>rfl)) (hfr:=by rfl)) aH)⟩)⟩,?_⟩;refine fV ⟨_,⟨cj (kq (cw.go (.cons ⟨pv 0⟩ (.cons ⟨AF hu (pv 9) (cO jv (pv 3) (pv 1)) (λ_ _=>rfl)⟩ (.cons ⟨hZ Ih 'd' B.tuple ZE (aD (pv 10) aH)⟩ .nil rfl) rfl) rfl)))⟩,?_⟩;obtain⟨bs,hp,j7,jA⟩:=id hR;have jK:(bs.map V.ref).length=rows.length:=by rw[Ze];exact j7
  refine⟨(by show 2<=sizeLine;decide),λD hD=>?_⟩;have sD:aC H (upd H D (.lst [.int 0,.int 1])):=bF hD;refine λk hk=>⟨(by show 4<=sizeLine;decide),λa ha=>⟨(by show 4<=sizeLine;decide),λb hb=>?_⟩⟩;have zb:D≠k:=ck aX hk;have Be:H k=none:=by
   cases e:H k with
   |none=>rfl
   |some o=>rw[sD _ _ e]at hk;cases hk
  have nka:k≠a:=ck aX ha;have k9:upd (upd (upd H D (.lst [.int 0,.int 1])) k (.dT [])) a (.tup [.int 0,.int 0,.int 0,.int 0]) k=some (.dT []):=dZ aX ha;have nkb:k≠b:=ck k9 hb;have nab:a≠b:=ck aX hb;refine⟨dZ k9 hb,[(aU [0,0,0,0],a,.int 0),(aU [1,1,1,1],b,.int 1)],rfl,?_,(by show 2<=15;decide),?_⟩
  ·intro x O;rcases ZB.mp O with rfl|O
   ·exact dZ aX hb
   ·rcases ZB.mp O with rfl|O
    ·exact aX
    ·cases O
  have kJ:upd (upd (upd (upd H D (.lst [.int 0,.int 1])) k (.dT [])) a (.tup [.int 0,.int 0,.int 0,.int 0])) b (.tup [.int 1,.int 1,.int 1,.int 1]) D=some (.lst [.int 0,.int 1]):=dZ (dZ (dZ aX hk) ha) hb;have s4:aC H (upd (upd (upd (upd H D (.lst [.int 0,.int 1])) k (.dT [])) a (.tup [.int 0,.int 0,.int 0,.int 0])) b (.tup [.int 1,.int 1,.int 1,.int 1])):=((sD.trans (bF hk)).trans (bF ha)).trans (bF hb);generalize upd (upd (upd (upd H D (.lst [.int 0,.int 1])) k (.dT [])) a (.tup [.int 0,.int 0,.int 0,.int 0])) b (.tup [.int 1,.int 1,.int 1,.int 1])=H4 at kJ s4;have s5:aC H (upd H4 k (.dT (kT [[0,0,0,0],[1,1,1,1]]))):=GF s4 Be;have e5:Ik [] [(aU [0,0,0,0],a,V.int 0),(aU [1,1,1,1],b,V.int 1)]=kT [[0,0,0,0],[1,1,1,1]]:=by rfl
  rw[e5];refine⟨_,rfl,rp,rfl,TR (K:=K) (a:=rp) (xs:=bs.map V.ref) (λi σ L=>aC H L/\L D=some (.lst (vN (Qf.mg (rows.take i)).1))/\L k=some (.dT (kT (Qf.mg (rows.take i)).2)) /\
    ∃v5 v6,σ=[some (.int (n:Nat)),some (.int (R:Nat)),some (.ref rp),some (.ref D),some (.ref k),v5,v6,none,none,none,none])
   (hp.elim (λh=>.inr λi σ L ⟨Y,_⟩=>aQ.of (Y _ _ h)) (λh=>.inl λi σ L ⟨Y,_⟩=>bY.of (Y _ _ h)))
   ⟨s5,by rw[bo zb];exact kJ,aX,none,none,rfl⟩ ?_ ?_⟩
  ·rintro i y σ L hy ⟨Y,jB,vS,v5,v6,rfl⟩;have hi:i<rows.length:=by rw[<- jK];exact(cx hy).1
   rw[Zf]at hy;obtain⟨rb,vZ,rfl⟩:=Zp.mp hy;have jC:rows[i]?=some rows[i]:=by simp[hi]
   have k8:=Y _ _ (jA i rb rows[i] vZ jC);have rk:=ok i _ jC;have tl:(rows.take i).length=i:=by rw[ZT];lia
   have S:=Kb (Se ok i);have mz:=S.len;rw[tl]at mz;have Jd:=Rx (rows.take i);rw[tl]at Jd;generalize rows[i]=r at jC k8 rk;have et:=xE7 jC;generalize Qf.mg (rows.take i)=c at jB vS S mz Jd et;have kH:∀x,x<i+2->c.1[x]?=some (c.1.getD x 0):=λx O=>by
    rw[Zt,Zd 'a'];rfl
   refine⟨_,rfl,rb,rfl,⟨_,aQ.of k8⟩,λD2 um=>oG um (λj z _=>∃x,r[j]?=some x/\z=.int (c.1.getD x 0:Nat)) (pA (K:=K) k8) (by rw[dM,rk.1];decide) (λ_ _ _ _ _ _ h=>h) ?_ ?_⟩
   ·intro j x H3 hj O W Q' hq;obtain⟨m,I,rfl⟩:=mZ O;have j8:=rk.2 m (Zo I);exact⟨_,rfl,_,rfl,D,_,(m:Int),.int (c.1.getD m 0:Nat),rfl,rfl,bY.of (W _ _ jB),sj (kH m j8),hq _ _ (aC.refl _) ⟨m,I,rfl⟩⟩
   ·intro ys H3 W jZ jU jS;have ey:ys=vN (r.map (c.1.getD · 0)):=by
     refine pz (by rw[jU,dM,dM,Ze]) λj x O=>?_;obtain⟨m,I,rfl⟩:=jS j x O;exact tQ (by rw[Zf,I];rfl)
    subst ey;refine⟨D2,_,rfl,.inl ⟨bY.of jZ,λl Z=>?_⟩⟩;have zA:=dZ (u:=.tup (vN (r.map (c.1.getD · 0)))) (W _ _ jB) Z;have EU:=dZ (u:=.tup (vN (r.map (c.1.getD · 0)))) (W _ _ vS) Z;have EO:upd H3 l (.tup (vN (r.map (c.1.getD · 0)))) l=some (.tup (vN (r.map (c.1.getD · 0)))):=aX;have T:aC H (upd H3 l (.tup (vN (r.map (c.1.getD · 0))))):=(Y.trans W).trans (bF Z);generalize upd H3 l (.tup (vN (r.map (c.1.getD · 0))))=H6 at zA EU EO T;have U:C8 c r=(c.1++[c.2.idxOf (r.map (c.1.getD · 0))],kz c.2 (r.map (c.1.getD · 0))):=rfl;generalize hlook:r.map (c.1.getD · 0)=look at EO U;have EL:(kT c.2).length=c.2.length:=yg _ _;have hap:∀(z:Nat)(N:Hp),N D=some (.lst (vN c.1))->upd N D (.lst (vN c.1++[.int (z:Nat)]))=upd N D (.lst (vN (c.1++[z]))):=λz N _=>by
     congr 2;unfold vN;rw[ZW]
     rfl
    refine⟨_,rfl,.inl ⟨rfl,_,bY.of zA⟩,_,rfl,.inr (.inr (.inl ⟨rfl,.inr ⟨_,EU⟩⟩)),_,rfl,_,rfl,k,_,rfl,EU,k,l,kT c.2,aU look,_,rfl,rfl,EU,by rw[sg];exact EO,by rw[EL];exact ml 'a',?_,?_⟩
    ·intro v hv;have M:=hv;unfold kT at M;rw[tN (λa b=>vd)]at M;by_cases I:look∈c.2
     ·rw[Zr I]at M;have ev:v=.int (c.2.idxOf look:Nat):=by
       have:=Zu M;rw[<- this,Xn]
       first|rfl|(congr 3;exact T5 inferInstance inferInstance)
      subst ev;refine⟨D,_,_,rfl,rfl,zA,by rw[dM];exact ml 'a',?_⟩;rw[hap _ _ zA];refine⟨GF T hD,?_,?_,_,_,rfl⟩
      ·rw[et,U,aX]
      ·rw[et,U,bo (Z2 zb),EU];show _=some (HO.dT (kT (kz c.2 look)));unfold kz;rw[Zr I]
     ·rw[Zi I]at M;cases M
    ·intro hv;have M:=hv;unfold kT at M;rw[tN (λa b=>vd)]at M;by_cases I:look∈c.2
     ·rw[Zr I]at M;cases M
     ·have Pn:c.2.idxOf look=c.2.length:=WP I;have yC:upd H6 k (.dT (putK (kT c.2) (aU look) (.int ((kT c.2).length:Nat)))) D=some (.lst (vN c.1)):=by rw[bo zb];exact zA
      have ek:putK (kT c.2) (aU look) (.int ((kT c.2).length:Nat))=kT (c.2++[look]):=by
       have:=MC (key:=aU) (k:=0) (λa b=>vd) I;rw[Xn]at this;rw[EL];exact this
      rw[ek]at yC;refine⟨D,vN c.1,.int (c.2.idxOf look:Nat),rfl,by rw[Pn,EL],by rw[ek];exact yC,by rw[dM];exact ml 'a',?_⟩;rw[ek,hap _ _ yC];refine⟨GF (GF T Be) hD,?_,?_,_,_,rfl⟩
      ·rw[et,U,aX]
      ·rw[et,U,bo (Z2 zb),aX];show _=some (HO.dT (kT (kz c.2 look)));unfold kz;rw[Zi I]
  ·rintro σ L ⟨Y,jB,vS,v5,v6,rfl⟩;rw[jK,Y9]at jB vS;have S:=Kb ok;have Jd:=Rx rows;have mz:=S.len;have cn:=xl0 hn ok kF hd;have wm:=S.dp R;have Ku:(Qf.mg rows).1.getD R 0<(Qf.mg rows).2.length:=Dn (by have:=S.two;lia) S.lt R;have G_:(Qf.mg rows).1[R]?=some ((Qf.mg rows).1.getD R 0):=by
    rw[Zt,Zd 'a'];rfl
   unfold tT sk at cn q;generalize Qf.mg rows=c at jB vS S Jd mz cn wm Ku G_ q;obtain⟨here,J⟩:=c;dsimp only at *;generalize hxx:here.getD R 0=x at cn wm Ku G_ q;have ES:=S.two;have ud:=S.ok;dsimp only at ES ud;have EL:(kT J).length=J.length:=yg _ _;refine⟨_,rfl,k,_,rfl,vS,λl cs Z vK wC=>?_⟩;have hRk:cF (upd L l (.lst (cs.map V.ref))) l J:=⟨cs,aX,by rw[vK,EL],λi b r U e2=>by
    have hi:=(cx e2).1;obtain⟨r',t_,ek⟩:=xJ0 (i:=i) (kv:=(kT J)[i]'(by lia)) (Zd 'a');rw[e2]at t_;cases t_;have:=wC i b _ U (Zd 'a');rw[ek,sg]at this;exact dZ this Z⟩
   have vB:=dZ (u:=.lst (cs.map V.ref)) jB Z;have W:aC H (upd L l (.lst (cs.map V.ref))):=Y.trans (bF Z);have Pb:∃u,upd L l (.lst (cs.map V.ref)) l=some u:=⟨_,aX⟩;generalize upd L l (.lst (cs.map V.ref))=H3 at hRk vB W Pb;refine λe he=>?_;have v_:D≠e:=ck vB he;have NA:l≠e:=by obtain⟨u,hu⟩:=Pb;exact ck hu he
   have heH:H e=none:=by
    cases z:H e with
    |none=>rfl
    |some o=>rw[W _ _ z]at he;cases he
   have s4:aC H (upd H3 e (.dK [])):=W.trans (bF he);have yY:=hRk.same (bF (o:=.dK []) he);have wF:=dZ (u:=.dK []) vB he;have PN:upd H3 e (.dK []) e=some (.dK (fK [])):=aX;generalize upd H3 e (.dK [])=H4 at s4 yY wF PN;refine⟨_,rfl,_,rfl,D,_,(R:Int),.int (x:Nat),rfl,rfl,bY.of wF,sj G_,_,rfl,_,rfl,l,e,x,J,[],rfl,yY,NA,ES,ud,by lia,Ku,ZN wm hd,vg _,PN,λH5 b5 vT=>?_⟩;have hE:dX (J.drop 2) (cu (J.drop 2) n [] x)/\(x<2\/x-2∈cu (J.drop 2) n [] x):=pU ud n [] x (vg _) (by rw[Z3];lia) (ZN wm hd);generalize cu (J.drop 2) n [] x=G at hE vT cn q;have s5:aC H H5:=λb u z=>b5 _ _ (s4 _ _ z) (ck z heH);have y9:=yY.but b5 NA PN (λu z=>by cases z);have yD:=b5 _ _ wF v_;obtain⟨pe,Ji⟩:=hE;have jY:=CM pe;rw[Z3]at jY;have PD:(fK G).length=G.length:=yg _ _;refine λg hg=>⟨aX,dY,rfl,(by show 2<=15;decide),?_⟩;have Jr:H g=none:=by
    cases z:H g with
    |none=>rfl
    |some o=>rw[s5 _ _ z]at hg;cases hg
   have eg:pO [] dY=dY:=by rfl
   rw[eg];have neg:e≠g:=ck vT hg;have NG:D≠g:=ck yD hg;have T:aC H5 (upd (upd H5 g (.dK [])) g (.dK dY)):=λb u z=>by rw[bo (ck z hg)];exact dZ z hg
   have PM:=T _ _ vT;have Bi:upd (upd H5 g (.dK [])) g (.dK dY) g=some (.dK dY):=aX;generalize upd (upd H5 g (.dK [])) g (.dK dY)=H6 at T PM Bi;refine⟨_,rfl,.inr (.inr (.inl ⟨rfl,.inl ⟨_,Bi⟩⟩)),_,rfl,g,e,dY,fK G,rfl,rfl,Z2 neg,Bi,PM,by rw[PD];show 2+G.length<=1191000;lia,?_⟩;have em:pO dY (fK G)=dY++fK G:=by
    have:=TZ G [] (by simpa using pe.nd);exact this
   rw[em];have b7:bJ g H6 (upd H6 g (.dK (dY++fK G))):=bJ.upd;have Br:cF (upd H6 g (.dK (dY++fK G))) l J:=(y9.same T).but b7 (by
    obtain⟨u,hu,_⟩:=y9;exact ck hu hg) Bi (λu z=>by cases z)
   have yC:=b7 _ _ (T _ _ yD) NG;have PL:=b7 _ _ PM neg;have Js:upd H6 g (.dK (dY++fK G)) g=some (.dK (dY++fK G)):=aX;have s7:aC H (upd H6 g (.dK (dY++fK G))):=λb u z=>b7 _ _ (T _ _ (s5 _ _ z)) (ck z Jr);generalize upd H6 g (.dK (dY++fK G))=N at Br yC PL Js s7;refine⟨_,rfl,e,fK G,rfl,PL,λo D2 um=>?_⟩;have b8:bJ e N (upd N e (.ic o (.dK (fK G)))):=bJ.upd;have hR8:cF (upd N e (.ic o (.dK (fK G)))) l J:=Br.but b8 NA PL (λu z=>by cases z);have JB:=b8 _ _ yC v_;have hg8:=b8 _ _ Js (Z2 neg);have he8:upd N e (.ic o (.dK (fK G))) e=some (.ic o (.dK (fK G))):=aX;have s8:aC H (upd N e (.ic o (.dK (fK G)))):=λb u z=>b8 _ _ (s7 _ _ z) (ck z heH);generalize upd N e (.ic o (.dK (fK G)))=H8 at hR8 JB hg8 he8 s8 um;have dgq:∀(X:Hp)(q:Nat),aC H8 X->p6 G q->cS X g (.int (q:Int)) (some (.int (nm G q:Nat))):=λX q s9 hq=>by
    have:=cS.k (k:=Sum.inl (q:Int)) (s9 _ _ hg8);rw[KI hq]at this;exact this
   refine q23 um (λi z X=>∃b p,z=.ref b/\G[i]?=some p/\X b=some (.tup (vN (((J.drop 2).getD p []).map (nm G))))) (xb8 he8) (by rw[PD];exact ml 'a') ?_ ?_ ?_
   ·rintro i z X Ak _ tk ⟨b,p,rfl,h1,h2⟩;exact⟨b,p,rfl,h1,tk _ _ h2⟩
   ·rintro i y X hi ⟨kv,yU,rfl⟩ s9 Q' hq;obtain⟨p,m_,ek⟩:=xJ1 yU;rw[ek];have jD:=pe.lt p (Zo m_);have hpl2:p+2<J.length:=by rw[Z3]at jD;lia
    have vW:J[p+2]?=some ((J.drop 2).getD p []):=by
     have:=ou jD;rw[Ws,Vs]at this;exact this
    have rk:=ud p _ (ou jD);have jO:∀q∈(J.drop 2).getD p [],p6 G q:=λq hq=>(AZ pe m_ hq).1;obtain⟨us,hlu,hul,hur⟩:=id (hR8.same s9);have k9:us[p+2]?=some (us[p+2]'(by lia)):=Zd 'a';have k8:=hur _ _ _ k9 vW;generalize OD:(J.drop 2).getD p []=r at vW rk jO k8;refine⟨_,rfl,_,rfl,l,_,((p+2:Nat):Int),.ref (us[p+2]'(by lia)),rfl,rfl,bY.of hlu,kr (by rw[Zf,k9];rfl),_,rfl,⟨_,aQ.of k8⟩,λD3 vB=>oG vB (λj z _=>∃m:Nat,r[j]?=some m/\z=.int (nm G m:Nat)) (pA (K:=K) k8) (by rw[dM,rk.1];decide) (λ_ _ _ _ _ _ h=>h) ?_ ?_⟩
    ·intro j y Ak hj hy Lv Q2 yK;obtain⟨m,I,rfl⟩:=mZ hy;exact⟨_,rfl,_,rfl,g,_,rfl,dgq _ m (s9.trans Lv) (jO m (Zo I)),yK _ _ (aC.refl _) ⟨m,I,rfl⟩⟩
    ·intro ys Ak Lv PY jU jS;have ey:ys=vN (r.map (nm G)):=by
      refine pz (by rw[jU,dM,dM,Ze]) λj z hz=>?_;obtain⟨m,I,rfl⟩:=jS j z hz;exact tQ (by rw[Zf,I];rfl)
     subst ey;refine⟨D3,_,rfl,.inl ⟨bY.of PY,λt ht=>hq _ _ (Lv.trans (bF ht)) ⟨t,p,rfl,m_,?_⟩⟩⟩;rw[OD,aX]
   ·intro ys X s9 hd9 jU jS;obtain⟨cs2,rfl⟩:=SE (ys:=ys) λi y hy=>by
     obtain⟨b,p,z,_⟩:=jS i y hy;exact⟨b,z⟩
    refine⟨_,rfl,_,rfl,_,rfl,_,rfl,D,_,(R:Int),.int (x:Nat),rfl,rfl,bY.of (s9 _ _ JB),sj G_,g,_,rfl,dgq X x s9 Ji,_,rfl,D2,_,rfl,.inl ⟨bY.of hd9,λt ht=>⟨(by show 3<=sizeLine;decide),λr hr=>?_⟩⟩⟩;refine q _ r (((s8.trans s9).trans (bF ht)).trans (bF hr)) ⟨⟨t,aX,cs2,dZ aX hr,?_,?_⟩,cn,?_⟩ ?_
    ·rw[nH,<- PD,<- jU,Ze]
    ·intro i b r0 U e2;obtain⟨b',p,z,m_,Fc⟩:=jS i (.ref b) (by rw[Zf,U];rfl);cases z;rw[u6 m_]at e2;cases e2;exact dZ (dZ Fc ht) hr
    ·rw[nH];lia
    ·rw[nH];lia
theorem oh:aE ["_law_purse_here","_law_n","_law_rows_here","_law_top"] ["_law_purse_here","_law_n","_law_rows_here"] (cg C6):=cZ
def LV:Sp:=λc H Q _=>∃(p b:ae)(n:Nat)(rows:List Row),c=[.ref p,.int (n:Nat),.ref b]/\ba H p/\cF H b rows/\b≠p/\cz rows/\rows.length<=300/\n<=12/\(∀x,x<rows.length+2->dp rows x<=n) /\
 ∀(a:Hp)(t d:Nat)(rws:List Row),bJ p H a->ba a p->gO a t n d rws->rws.length<=rows.length->Q (.ref t) a
theorem xr4{f C u:ae}{fd M J:ai}(F:aP K "_law_drawn" "_law_drawn" C6 f fd)(B:d_ mg)
  (W:mg "_law_draw"=some (.ref C)) (v:aP K "_law_draw" "_law_draw" tR C M) (bD:Binds K M ["_law_purse_here","_law_many"] [])
  (hS:mg "_law_shape"=some (.ref u)) (FS:aP K "_law_shape" "_law_shape" AX u J) (bS:Binds K J ["_law_n","_law_top","_law_rows_here"] []) (GS:aB P w K mg base aJ 14 u J ["_law_n","_law_top","_law_rows_here"] Mq):
  aB P w K mg base aJ 15 f fd ["_law_purse_here","_law_n","_law_rows_here"] LV:=by
 have R:aB P w K mg base aJ 1 C M ["_law_purse_here","_law_many"] yv:=Ax v;refine F.ok oh (λvs H Q E h=>?_) (λbp A I s H vs Q E T h=>?_)
 ·obtain⟨p,d,n,rows,rfl,_⟩:=h
  rfl
 ·obtain⟨p,d,n,rows,rfl,X,hR,vY,ok,hl,hn,hd,q⟩:=h;have Y:aS 1 _:=T.mono 'c';refine aO ⟨_,⟨eI 3 oh.nd (Te jv (iI (cw.go (.cons ⟨cy iR (cQ iq 'd' B.len ZF (aD (pv 2) aH)) aR⟩
    (.cons ⟨bZ R Y W v.kp bD (aD (pv 0) (aD (cy iR (cQ iq 'd' B.len ZF (aD (pv 2) aH)) aR) aH))⟩ .nil rfl) rfl)))
    (df.go ⟨hZ HV 'd' B.int YW (aD (oy mY (bZ R Y W v.kp bD (aD (pv 0) (aD aR aH))) aR (cP _)) aH)⟩) (λ_ _=>rfl))⟩,?_⟩
  refine fV ⟨_,⟨cj (bZ GS T hS FS.kp bS (aD (pv 1) (aD (pv 3) (aD (pv 2) aH))))⟩,?_⟩;obtain⟨bs,hb,S,O⟩:=id hR;have jK:(bs.map V.ref).length=rows.length:=by rw[Ze];exact S
  refine⟨_,rfl,d,_,rfl,.inl (bY.of hb),_,_,rfl,rfl,?_⟩;refine⟨_,rfl,_,rfl,d,_,rfl,.inl (bY.of hb),_,_,rfl,rfl,p,(bs.map V.ref).length+2,rfl,X,by lia,by lia,λy H1 vJ b1 jJ=>?_⟩;refine⟨(by show 2<=sizeLine;decide),λL x=>?_⟩;have jM:=jJ.same (bF (o:=.lst [.int (((bs.map V.ref).length:Int)+1),.int (y:Nat)]) x);have N:p≠L:=by obtain⟨a,b,e,_⟩:=jJ;exact ck e x
  refine⟨_,rfl,p,4,rfl,jM,by decide,by decide,λd2 G jB U jQ=>?_⟩;have Z:=U _ _ aX (Z2 N);have D:bJ p H G:=(b1.trans (bJ.of (bF x))).trans U;have Nv:∀b∈bs,b≠p:=λb E_ z=>by
   obtain⟨j,hj,e⟩:=ZM.mp E_;obtain⟨a,c,ep,_⟩:=X;have:=O j b (rows[j]'(by lia)) (by simp[hj,e]) (by simp[show j<rows.length by lia]);rw[z,ep]at this;cases this
  have Bs:cF G d rows:=⟨bs,D _ _ hb vY,S,λi b r e1 m=>D _ _ (O i b r e1 m) (Nv b (Zo e1))⟩;have g:∀l:Nat,l<rows.length+2->Mq [.int (n:Nat),.int (l:Nat),.ref d] G Q E:=λl ht=>
   ⟨d,n,l,rows,rfl,Bs.zs,ok,by lia,hn,ht,hd l ht,λH4 t s4 sh k=>q H4 t _ _ (D.trans (bJ.of s4)) (jQ.same s4) ⟨sh.1,sh.2.1,ZN k 'a'⟩ k⟩
  refine⟨rfl,.inr ⟨_,rfl,?_⟩⟩;by_cases hc:d2=0
  ·subst hc;have e:V.int (if decide (V.int ((0:Nat):Int)=V.int 0)=true then 1 else 0)=V.int 1:=Yo V.int (Zr (Zq rfl));exact⟨L,_,1,.int (y:Nat),rfl,e,bY.of Z,rfl,_,rfl,_,rfl,_,rfl,g y 'a'⟩
  ·have e:V.int (if decide (V.int (d2:Int)=V.int 0)=true then 1 else 0)=V.int 0:=Yo V.int (Zi (λz=>hc (by have:=V.int.inj (ZI z);lia)));have m:V.int (((bs.map V.ref).length:Int)+1)=.int ((rows.length+1:Nat):Int):=by rw[jK];rfl
   refine⟨L,_,0,.int ((rows.length+1:Nat):Int),rfl,e,bY.of Z,?_,_,rfl,_,rfl,_,rfl,g (rows.length+1) 'a'⟩;rw[<- m]
   rfl
end
theorem cF.take{H:Hp}{l l2:ae}{rows:List Row}{bs:List ae}(e:H l2=some (.lst ((bs.map V.ref).take k)))(hb:bs.length=rows.length)(d:∀(i:Nat) b r,bs[i]?=some b->rows[i]?=some r->H b=some (.tup (vN r))):cF H l2 (rows.take k):=by
 refine⟨bs.take k,by rw[e,List.map_take],by rw[ZT,ZT,hb],λi b r a c=>?_⟩;rw[Va]at a c;split at a
 ·rename_i h;rw[Zr h]at c;exact d i b r a c
 ·cases a
section
variable{mg:aq->Option aa}{base:ao}
abbrev NC:List aq:=["_law_purse_here","_law_n","_law_most","_law_rows_here","_law_one","_law_more"]
abbrev Gv:List aq:=["_law_purse_here","_law_n","_law_most"]
theorem n9:aE NC Gv (cg t7):=cZ
def KR:Sp:=λe H Q _=>∃(p:ae)(n most:Nat),e=[.ref p,.int (n:Nat),.int (most:Nat)]/\ba H p/\n<=12/\most<=50 /\
 ∀(a:Hp)(D t b:ae)(f d:Nat)(rws c:List Row),bJ p H a->ba a p->a D=some (.lst [.ref t,.ref b])->gO a t n f rws->gO a b n d c->rws.length<=most->c.length<=2*most->Q (.ref D) a
theorem xM0{f J fR Z:ae}{fd X N nQ:ai}(F:aP K "_law_two" "_law_two" t7 f fd)(B:d_ mg)
  (hD:mg "_law_draw"=some (.ref J)) (FD:aP K "_law_draw" "_law_draw" tR J X) (bD:Binds K X ["_law_purse_here","_law_many"] [])
  (hR:mg "_law_rows"=some (.ref fR)) (FR:aP K "_law_rows" "_law_rows" yj fR N) (bR:Binds K N ["_law_purse_here","_law_n","_law_most","_law_begun"] []) (GR:aB P w K mg base aJ 3 fR N ["_law_purse_here","_law_n","_law_most","_law_begun"] LW)
  (hA:mg "_law_drawn"=some (.ref Z)) (FA:aP K "_law_drawn" "_law_drawn" C6 Z nQ) (bA:Binds K nQ ["_law_purse_here","_law_n","_law_rows_here"] []) (GA:aB P w K mg base aJ 15 Z nQ ["_law_purse_here","_law_n","_law_rows_here"] LV):
  aB P w K mg base aJ 16 f fd Gv KR:=by
 have GD:aB P w K mg base aJ 1 J X ["_law_purse_here","_law_many"] yv:=Ax FD;refine F.ok n9 (λvs H Q E h=>?_) (λbp A W s H vs Q E G h=>?_)
 ·obtain⟨p,n,a,rfl,_⟩:=h
  rfl
 ·obtain⟨p,n,a,rfl,hp,I,hm,q⟩:=h;have jC:aS 1 _:=G.mono 'c';have yO:aS 3 _:=G.mono 'c';refine aO ⟨_,⟨eI 3 n9.nd (bZ GR yO hR FR.kp bR (cw.go (.cons ⟨pv 0⟩ (.cons ⟨pv 1⟩ (.cons ⟨pv 2⟩ (.cons ⟨iI aH⟩ .nil rfl) rfl) rfl) rfl)))⟩,?_⟩;refine aO ⟨_,⟨eI 4 n9.nd (bZ GA G hA FA.kp bA (aD (pv 0) (aD (pv 1) (aD (pv 3) aH))))⟩,?_⟩;refine aO ⟨_,⟨eI 5 n9.nd (bZ GR yO hR FR.kp bR (cw.go (.cons ⟨pv 0⟩ (.cons ⟨pv 1⟩ (.cons ⟨pv 2⟩ (.cons ⟨tO Mo (pv 3) pS (nF (df.go ⟨bZ GD jC hD FD.kp bD (cw.go (.cons ⟨pv 0⟩ (.cons ⟨cy iR (cQ iq 'd' B.len ZF (aD (pv 3) aH)) aR⟩ .nil rfl) rfl))⟩))⟩ .nil rfl) rfl) rfl) rfl)))⟩,?_⟩;refine fV ⟨_,⟨cj (iI (cw.go (.cons ⟨pv 4⟩ (.cons ⟨bZ GA G hA FA.kp bA (aD (pv 0) (aD (pv 1) (aD (pv 5) aH)))⟩ .nil rfl) rfl)))⟩,?_⟩;refine⟨_,rfl,_,rfl,_,rfl,(by show 0<=sizeLine;decide),λb0 C=>?_⟩;have sI:p≠b0:=by obtain⟨u,v,e,_⟩:=hp;exact ck e C
  refine⟨p,b0,n,a,[],rfl,hp.same (bF C),⟨[],aX,rfl,λi b r e _=>by simp at e⟩,Z2 sI,λp r e=>by simp at e,λx M=>by rw[so (by simpa using M)];lia,by decide,by lia,I,λH1 l rows b1 jJ vO kI gf vJ Pa=>?_⟩;have O_:rows.length<=a:=by simpa using Pa
  have O:l≠p:=by
   obtain⟨u,v,e,_⟩:=hp.same (bF (o:=.lst []) C);exact(ck e vO).symm
  refine⟨_,rfl,_,rfl,_,rfl,p,l,n,rows,rfl,jJ,kI,O,gf,by lia,I,vJ,λH2 t tp rws R jM sf Pe=>?_⟩;have g:∀{Y Hb:Hp},bJ p Y Hb->ba Y p->dW Y Hb:=λb ⟨u,v,e,_⟩=>b.cC e (λu z=>by cases z);obtain⟨bs,hbs,wO,hbr⟩:=id kI;have E9:=R _ _ hbs O;have jK:(bs.map V.ref).length=rows.length:=by rw[Ze];exact wO
  refine⟨_,rfl,_,rfl,_,rfl,_,rfl,_,rfl,_,rfl,l,_,rfl,.inl (bY.of E9),_,_,rfl,rfl,p,rows.length+1,by rw[jK];rfl,jM,by lia,by lia,λk H3 hk y m=>⟨_,rfl,l,_,rfl,bY.of (y _ _ E9 O),λj jR=>?_⟩⟩;have zW:dk (bs.map V.ref) none (some (k:Int))=(bs.map V.ref).take k:=RS (by rw[jK];lia);rw[zW];have za:p≠j:=by obtain⟨u,v,e,_⟩:=m;exact ck e jR
  have U:=bF (o:=.lst ((bs.map V.ref).take k)) jR;have S:cF (upd H3 j (.lst ((bs.map V.ref).take k))) j (rows.take k):=cF.take (l:=l) aX wO λi b r e1 e2=>U _ _ (((g R jJ).trans (g y jM)) _ _ (hbr i b r e1 e2));have Oy:(rows.take k).length<=rows.length:=by rw[ZT];lia
  refine⟨p,j,n,a,rows.take k,rfl,m.same U,S,Z2 za,Se gf k,λx M=>?_,by lia,by lia,I,λH4 l3 mf b4 vD hl4 yY ok4 kY hlr4=>?_⟩
  ·have:=vJ x 'a';rw[<- Xe k rows,CZ M]at this;exact this
  have nl3:l3≠p:=by
   obtain⟨u,v,e,_⟩:=m.same U;exact(ck e hl4).symm
  refine⟨_,rfl,_,rfl,_,rfl,_,rfl,p,l3,n,mf,rfl,vD,yY,nl3,ok4,by lia,I,kY,λH5 t5 T Lw b5 kM Ln Pd=>⟨(by show 2<=sizeLine;decide),λD yB=>?_⟩⟩;have d:=bF (o:=.lst [V.ref t,V.ref t5]) yB;have c:dW H2 H5:=((g y jM).trans U.cC).trans ((g b4 (m.same U)).trans (g b5 vD));have B5:bJ p H (upd H5 D (.lst [V.ref t,V.ref t5])):=(((((((bJ.of (bF C)).trans b1).trans R).trans y).trans (bJ.of U)).trans b4).trans b5).trans (bJ.of d);obtain⟨⟨rp,ht,L⟩,cn,Jp⟩:=sf;refine q _ D t t5 tp T rws Lw B5 (kM.same d) aX ⟨⟨rp,d _ _ (c _ _ ht),(L.mono c).same d⟩,cn,Jp⟩ (mm Ln d) 'a' 'a'
end
theorem tF{H a:Hp}{p t:ae}{n tp:Nat}{rows:List Row}(c:ba H p)(b:bJ p H a)(h:gO H t n tp rows):gO a t n tp rows:=by
 obtain⟨u,v,e,_⟩:=c;obtain⟨d,r⟩:=h;exact⟨d.mono (b.cC e λu z=>nomatch z),r⟩
abbrev sW(a:ae)(i:Nat)(p:ae)(n:Nat)(t t':ae)(m:Nat)(x y z:Option V):St:=[some (.ref a),some (.int (0+(i:Int))),some (.ref p),some (.int (n:Nat)),some (.ref t),some (.ref t'),some (.int (m:Nat)),x,y,z]
section
variable{mg:aq->Option aa}{base:ao}
abbrev NF:List aq:=["_law_script","_law_k","_law_purse_here","_law_n","_law_one","_law_other","_law_size","_law_far","_law_odd_here","_law_deed_here"]
theorem f_:aE NF ["_law_script"] (cg lM):=cZ
def Gu(K:PySem.W.Frag):Sp:=λc H Q _=>∃(a:ae)(b:List Int),c=[.ref a]/\bY K H a (b.map V.int)/\b.length<=63/\∀d,Q (.bl true) d
theorem xM1{f fP fD fT fR fA fO fS fX:ae}{fd iB eM nP dJ nQ QA dz lQ:ai}(F:aP K "law" "law" lM f fd)(B:d_ mg)
  (hP:mg "_law_purse"=some (.ref fP)) (FP:aP K "_law_purse" "_law_purse" Io fP iB) (bP:Binds K iB ["_law_script","_law_k"] [])
  (hD:mg "_law_draw"=some (.ref fD)) (FD:aP K "_law_draw" "_law_draw" tR fD eM) (bD:Binds K eM ["_law_purse_here","_law_many"] [])
  (hT:mg "_law_two"=some (.ref fT)) (FT:aP K "_law_two" "_law_two" t7 fT nP) (bT:Binds K nP Gv []) (GT:aB P w K mg base aJ 16 fT nP Gv KR)
  (hR:mg "_law_rows"=some (.ref fR)) (FR:aP K "_law_rows" "_law_rows" yj fR dJ) (bR:Binds K dJ ["_law_purse_here","_law_n","_law_most","_law_begun"] []) (GR:aB P w K mg base aJ 3 fR dJ ["_law_purse_here","_law_n","_law_most","_law_begun"] LW)
  (hA:mg "_law_drawn"=some (.ref fA)) (FA:aP K "_law_drawn" "_law_drawn" C6 fA nQ) (bA:Binds K nQ ["_law_purse_here","_law_n","_law_rows_here"] []) (GA:aB P w K mg base aJ 15 fA nQ ["_law_purse_here","_law_n","_law_rows_here"] LV)
  (hO:mg "_law_odd"=some (.ref fO)) (FO:aP K "_law_odd" "_law_odd" t8 fO QA) (bO:Binds K QA ["_law_shape_here"] []) (GO:aB P w K mg base aJ 2 fO QA ["_law_shape_here"] xM)
  (hS:mg "_law_spoiled"=some (.ref fS)) (FS:aP K "_law_spoiled" "_law_spoiled" HA fS dz) (bS:Binds K dz ["_law_purse_here","_law_shape_here"] []) (GS:aB P w K mg base aJ 2 fS dz ["_law_purse_here","_law_shape_here"] xH)
  (hX:mg "_law_deed_right"=some (.ref fX)) (FX:aP K "_law_deed_right" "_law_deed_right" HZ fX lQ) (bX:Binds K lQ tZ []) (GX:aB P w K mg base aJ 23 fX lQ tZ xR):
  aB P w K mg base aJ 24 f fd ["_law_script"] (Gu K):=by
 have GP:aB P w K mg base aJ 1 fP iB ["_law_script","_law_k"] (Sv K):=xp7 FP B;have GD:aB P w K mg base aJ 1 fD eM ["_law_purse_here","_law_many"] yv:=Ax FD;refine F.ok f_ (λvs H Q E h=>?_) (λbp A outer s H vs Q E R h=>?_)
 ·obtain⟨a,ns,rfl,_⟩:=h
  rfl
 ·obtain⟨a,ns,rfl,hSq,j7,q⟩:=h;have T:aS 1 _:=R.mono 'c';have kB:aS 2 _:=R.mono 'c';have yO:aS 3 _:=R.mono 'c';have zu:aS 15 _:=R.mono 'c';have OL:aS 16 _:=R.mono 'c';have Ez:aS 23 _:=R.mono 'c';refine aO ⟨_,⟨o_ Yj rfl (CV 'd' B.range (aD (cQ (q53 rfl) 'd' B.max WH (aD aR (aD (cQ (q54 rfl) 'd' B.min PyProof.Rows.boot_min (aD (cQ iq 'd' B.len ZF (aD (pv 0) aH)) (aD aR aH))) aH))) aH)) (dj 1 f_.nd)
   (oW.go (.cons ⟨eI 2 f_.nd (bZ GP T hP FP.kp bP (aD (pv 0) (aD (pv 1) aH)))⟩
   (.cons ⟨eI 3 f_.nd (bZ GD T hD FD.kp bD (aD (pv 2) (aD aR aH)))⟩
   (.cons ⟨m6 (df.go ⟨bZ GT OL hT FT.kp bT (aD (pv 2) (aD (pv 3) (aD aR aH)))⟩) (RB rfl (e_ (dj 4 f_.nd) (e_ (dj 5 f_.nd) oz)))⟩
   (.cons ⟨eI 6 f_.nd (cy A2 (cy iR (cy iR (pv 3) aR) (df.go ⟨bZ GD T hD FD.kp bD (aD (pv 2) (aD aR aH))⟩)) aR)⟩
   (.cons ⟨eI 7 f_.nd (df.go ⟨bZ GA zu hA FA.kp bA (cw.go (.cons ⟨pv 2⟩ (.cons ⟨pv 6⟩ (.cons ⟨bZ GR yO hR FR.kp bR (cw.go (.cons ⟨pv 2⟩ (.cons ⟨pv 6⟩ (.cons ⟨aR⟩ (.cons ⟨iI aH⟩ .nil rfl) rfl) rfl) rfl))⟩ .nil rfl) rfl) rfl))⟩)⟩
   (.cons ⟨eI 8 f_.nd (bZ GO kB hO FO.kp bO (aD (pv 4) aH))⟩
   (.cons ⟨o_ Yj rfl (CV 'd' B.range (aD aR aH)) (dj 9 f_.nd)
    (oW.go (.one ⟨c9 (i_ (il (df.go ⟨bZ GX Ez hX FX.kp bX (cw.go (.cons ⟨pv 9⟩ (.cons ⟨iI (aD (pv 4) (aD (pv 5) (aD (pv 7) aH)))⟩ (.cons ⟨cO jv (pv 8) (df.go ⟨bZ GD T hD FD.kp bD (cw.go (.cons ⟨pv 2⟩ (.cons ⟨cQ iq 'd' B.len ZF (aD (pv 8) aH)⟩ .nil rfl) rfl))⟩)⟩ .nil rfl) rfl) rfl))⟩))) m8 c_⟩))⟩
   (.one ⟨c9 (i_ (il (df.go ⟨bZ GX Ez hX FX.kp bX (cw.go (.cons ⟨bZ GD T hD FD.kp bD (aD (pv 2) (aD aR aH))⟩ (.cons ⟨iI (aD (pv 4) (aD (pv 5) (aD (pv 7) aH)))⟩ (.cons ⟨bZ GS kB hS FS.kp bS (aD (pv 2) (aD (pv 4) aH))⟩ .nil rfl) rfl) rfl))⟩))) m8 c_⟩)))))))))⟩,?_⟩
  refine fV ⟨_,⟨cj js⟩,?_⟩;refine⟨_,rfl,a,_,rfl,.inl hSq,_,_,rfl,_,_,rfl,_,rfl,?_,?_,LD (λi J H2=>(i:Int)<=4/\aC H H2/\∃v1 v2 v3 v4 v5 v6 v7 V N,J=[some (.ref a),v1,v2,v3,v4,v5,v6,v7,V,N]) ⟨by decide,aC.refl _,none,none,none,none,none,none,none,none,none,rfl⟩ ?_ ?_⟩
  ·split<;>(try split)<;>lia
  ·split<;>(try split)<;>lia
  ·rintro i J H2 hi ⟨i1,s2,v1,v2,v3,v4,v5,v6,v7,V,N,rfl⟩;have fY:(i:Int)<4:=by
    revert hi;split<;>(try split)<;>lia
   refine⟨_,rfl,_,rfl,a,_,ns,rfl,s2.seq hSq,j7,by lia,by lia,λH3 p s3 U jQ=>?_⟩;refine⟨_,rfl,p,13,rfl,jQ,by decide,by decide,λn H4 hn b4 vD=>?_⟩;refine⟨_,rfl,_,rfl,p,n,12,rfl,vD,by lia,by decide,λH5 D t g tp bu C me b5 kM yD Ln Ll hl5 hl5'=>?_⟩;have S5:aC H H5:=λb o e=>by
    have e2:=s2 b o e;have nb:b≠p:=ck e2 U;exact b5 _ _ (b4 _ _ (s3 _ _ e2) nb) nb
   have hpH:H p=none:=s2.free U;refine⟨D,_,rfl,bY.of yD,rfl,_,_,rfl,_,_,rfl,rfl,?_⟩;have w4:C.length*me.length<=12*24:=Nat.mul_le_mul hl5 'a';have W:2*C.length+2*me.length+C.length*me.length<=890:=by lia
   refine⟨_,rfl,_,_,rfl,rfl,_,rfl,p,12,rfl,kM,by decide,by decide,λe H6 he b6 vL=>?_⟩;refine⟨_,_,rfl,rfl,_,_,rfl,rfl,(by show(0:Int)<13;decide),?_⟩;obtain⟨m,em,wY,wR⟩:∃m:Nat,((n:Int)+1+(e:Int))%13=(m:Int)/\m<=12/\n≠m:=⟨(n+1+e)%13,by lia,by lia,by lia⟩;rw[em];dsimp only[eZ];refine qE (σ':=(sW a i p n t g m v7 V N)) rfl ?_;refine⟨_,rfl,_,rfl,_,rfl,_,rfl,(by show 0<=sizeLine;decide),λb0 wP=>?_⟩;have sI:p≠b0:=by obtain⟨u,v,e,_⟩:=vL;exact ck e wP
   refine⟨p,b0,m,12,[],rfl,vL.same (bF wP),⟨[],aX,rfl,λi b r e _=>by simp at e⟩,Z2 sI,λp r e=>by simp at e,λx hx=>by rw[so (by simpa using hx)];lia,by decide,by decide,wY,λH7 l rows b7 yQ X Br ok7 yV Pa=>?_⟩;have O_:rows.length<=12:=by simpa using Pa
   have vw:l≠p:=by
    obtain⟨u,v,e,_⟩:=vL.same (bF (o:=.lst []) wP);exact(ck e X).symm
   refine⟨p,l,m,rows,rfl,yQ,Br,vw,ok7,by lia,wY,yV,λH8 y xx Cr b8 yP sh3 hle3=>?_⟩;have Rq:bJ p H5 H8:=((b6.trans (bJ.of (bF wP))).trans b7).trans b8;have h1:=tF kM Rq Ln;have h2:=tF kM Rq Ll;clear Br vL yQ X;dsimp only[eZ];refine qE (σ':=(sW a i p n t g m (some (.ref y)) V N)) rfl ?_;obtain⟨pa,pb,vC,_⟩:=id yP;refine⟨_,rfl,⟨p,t,n,tp,C,_,rfl,vC,h1.1,h1.2.1,by lia,λO Z kk bg k1 k2=>?_⟩⟩;have s9:=bg.same;have I:=yP.same s9;have g1:=mm h1 s9;have g2:=mm h2 s9;have g3:=mm sh3 s9;have B9:bJ p H5 O:=Rq.trans (bJ.of s9);dsimp only[eZ];refine qE (σ':=(sW a i p n t g m (some (.ref y)) (some (.ref Z)) N)) rfl ?_;refine⟨8,rfl,by decide,by decide,LD (λj J M=>bJ p O M/\ba M p/\∃w9,J=(sW a i p n t g m (some (.ref y)) (some (.ref Z)) w9)) ⟨bJ.refl _ _,I,_,rfl⟩ ?_ ?_⟩
   ·rintro j J M hj ⟨bx,Jl,w9,rfl⟩;have hj8:(j:Int)<8:=by lia
    refine⟨_,rfl,_,rfl,_,rfl,_,rfl,(by show 3<=sizeLine;decide),λL S=>?_⟩;have ND:L≠p:=by obtain⟨u,v,e,_⟩:=Jl;exact(ck e S).symm
    have Y:=bF (o:=.lst [.ref t,.ref g,.ref y]) S;have eL:upd M L (.lst [.ref t,.ref g,.ref y]) L=some (.lst [.ref t,.ref g,.ref y]):=aX;have vR:=Jl.same Y;have G:bJ p O (upd M L (.lst [.ref t,.ref g,.ref y])):=bx.trans (bJ.of Y);generalize upd M L (.lst [.ref t,.ref g,.ref y])=Hy at eL vR G ⊢;obtain⟨xs0,_,_,wX,_,hD9,lx0,_⟩:=id bg;have nDp:Z≠p:=λz=>by
     obtain⟨xs0,H1,z1,wX,_⟩:=id bg;rw[z,z1 _ _ vC]at wX;cases wX
    have hDy:=G _ _ hD9 nDp;refine⟨_,rfl,_,rfl,_,rfl,Z,_,rfl,.inl (bY.of hDy),p,kk,by rw[lx0];rfl,vR,by lia,by lia,λc Hz hc bz hpz=>?_⟩;obtain⟨xs,x,d,e1,e2,e3,e4⟩:=xo9 bg vC (λb o e n=>bz b o (G b o e n) n) hc;have Bz:bJ p O Hz:=G.trans bz;refine⟨Z,xs,(c:Int),x,rfl,rfl,bY.of e1,kr e2,?_⟩;refine⟨j,L,t,g,y,x,d,n,m,tp,bu,xx,C,me,Cr,by rw[Int.zero_add];rfl,by lia,bz _ _ eL ND,tF I Bz g1,tF I Bz g2,tF I Bz g3,wR,W,e3.same SD,e4,λHw sw=>⟨_,rfl,b_ ?_⟩⟩;exact⟨Bz.trans (bJ.of sw),hpz.same sw,_,rfl⟩
   ·rintro J M ⟨bx,Jl,w9,rfl⟩;refine⟨_,rfl,p,8,rfl,Jl,by decide,by decide,λk Hy hk by_ hpy=>?_⟩;refine⟨_,rfl,_,rfl,_,rfl,(by show 3<=sizeLine;decide),λL S=>?_⟩;have ND:L≠p:=by obtain⟨u,v,e,_⟩:=hpy;exact(ck e S).symm
    have Y:=bF (o:=.lst [.ref t,.ref g,.ref y]) S;have eL:upd Hy L (.lst [.ref t,.ref g,.ref y]) L=some (.lst [.ref t,.ref g,.ref y]):=aX;have vR:=hpy.same Y;have G:bJ p O (upd Hy L (.lst [.ref t,.ref g,.ref y])):=(bx.trans by_).trans (bJ.of Y);generalize upd Hy L (.lst [.ref t,.ref g,.ref y])=Hz at eL vR G ⊢;have f1:=tF I G g1;refine⟨_,rfl,_,rfl,p,t,n,tp,C,rfl,vR,f1.1,f1.2.1,by lia,λHw v d bw hpw dv nv=>?_⟩;have Bw:bJ p O Hw:=G.trans bw;refine⟨k,L,t,g,y,v,d,n,m,tp,bu,xx,C,me,Cr,rfl,hk,bw _ _ eL ND,tF I Bw g1,tF I Bw g2,tF I Bw g3,wR,W,dv.same SD,nv,λHv sv=>⟨_,rfl,b_ ?_⟩⟩;refine⟨by lia,λb o e=>?_,_,_,_,_,_,_,_,_,_,rfl⟩;have nb:b≠p:=λz=>by rw[z,hpH]at e;cases e
    exact sv _ _ (Bw _ _ (B9 _ _ (S5 _ _ e) nb) nb)
  ·rintro J H2 ⟨_,_,v1,v2,v3,v4,v5,v6,v7,V,N,rfl⟩;exact q H2
end
def dm(K:PySem.W.Frag)(x:aq)(st:ay):Prop:=∃(f:ae)(a:ai),PySem.W.nsIn K mainGlobals x=some (some (.ref f))/\aP K x x st f a
theorem QI{K:PySem.W.Frag}{x:aq}{st:ay}{f:ae}{h g:Option ae}{j:Array (Option aa)}{e kV d i b ct:aa}(a:PySem.W.nsIn K mainGlobals x=some (some (.ref f)))
  (l:K.lookup f=some ⟨e,h,.func (PySem.W.fnOf x x (qF st) (oA st) (cg st) .none kV d i g b ct),j⟩) (c:PySem.W.codeIn K b x=true) (k:PySem.W.keepIn K (.ref f)=true):dm K x st:=⟨f,_,a,M5 l c k⟩
def gn(K:PySem.W.Frag)(x:aq):Prop:=PySem.W.nsIn K mainGlobals x=some none
def AS(K:PySem.W.Frag)(C:ae)(m a:aq)(st:ay):Prop:=∃(f:ae)(b:ai),PySem.W.findIn K (.ref C) m=some (some (.ref f))/\PySem.W.isFn K (.ref f)=true/\aP K m a st f b
theorem rg{K:PySem.W.Frag}{C:ae}{m b:aq}{st:ay}{f:ae}{j h:Option ae}{q:Array (Option aa)}{g kV e p d ct:aa}(a:PySem.W.findIn K (.ref C) m=some (some (.ref f)))(i:PySem.W.isFn K (.ref f)=true)
  (l:K.lookup f=some ⟨g,j,.func (PySem.W.fnOf m b (qF st) (oA st) (cg st) .none kV e p h d ct),q⟩) (c:PySem.W.codeIn K d b=true) (k:PySem.W.keepIn K (.ref f)=true):AS K C m b st:=⟨f,_,a,i,M5 l c k⟩
theorem l4{b:Type}{P:List b->Prop}(h:∀a:b,P [a]):∀c:List b,c.length=1->P c
 |[a],_=>h a
theorem ll{c:Type}{P:List c->Prop}(h:∀a b:c,P [a,b]):∀d:List c,d.length=2->P d
 |[a,b],_=>h a b
theorem pM{d:Type}{P:List d->Prop}(h:∀a b c:d,P [a,b,c]):∀e:List d,e.length=3->P e
 |[a,b,c],_=>h a b c
theorem K6{e:Type}{P:List e->Prop}(h:∀a b c d:e,P [a,b,c,d]):∀f:List e,f.length=4->P f
 |[a,b,c,d],_=>h a b c d
theorem Fw{K:PySem.W.Frag}{C:ae}(b:PySem.W.findIn K (.ref C) "__getattribute__"=some (some (.builtin "BaseException.__getattribute__")))(c:PySem.W.findIn K (.ref C) "__getattr__"=some none)
  (f:PySem.W.findIn K (.ref C) "__class__"=some (some (.builtin "object.__class__"))) (d:PySem.W.specialIn K (.builtin "object.__class__") "__get__"=some (some (.builtin "getset_descriptor.__get__")))
  (e:PySem.W.takesIn K (.builtin "object.__class__")=some true) (a:PySem.W.mroIn K C (.type "object")=some true) (hb:PySem.W.mroIn K C (.type "BaseException")=some true){x:_}(hc:PySem.W.clsIn K C=some x):fy K C:=⟨b,c,f,d,e,a,hb,by rw[hc];rfl⟩
def zj(K:PySem.W.Frag)(c S O E i g a d f h:ae)(e b:Bool):Bool:=PySem.W.excIn K c FI "ValueError.__new__"&&decide (PySem.W.kitOne K (.ref c) (.type "ValueError")=some true/\PySem.W.kitAny K (.ref c) [.ref i,.ref g,.ref a,.ref d,.ref f,.ref h]=some false/\PySem.W.kitOne K (.ref c) (.ref S)=some e/\PySem.W.kitOne K (.ref c) (.ref O)=some b/\PySem.W.exmOne K (.ref c) (.ref E)=some true)
def xR2(K:PySem.W.Frag)(S O E f d a b c e:ae):Bool:=zj K S S O E f d a b c e true false&&zj K O S O E f d a b c e false true
theorem Sd{K:PySem.W.Frag}{c S O E j i a d f g:ae}{e b:Bool}(h:zj K c S O E j i a d f g e b=true)(k:fy K c):Gi K c S O j i a d f g e b/\PySem.W.excIn K c FI "ValueError.__new__"=true/\PySem.W.exmOne K (.ref c) (.ref E)=some true:=by
 obtain⟨h1,h2⟩:=Wc.mp h;obtain⟨h2,p,q,m,l⟩:=ZI h2;exact⟨⟨k,h2,p,q,m⟩,h1,l⟩
theorem Gr{K:PySem.W.Frag}{a:ae}{i:Option ae}{j:Array (Option aa)}{h g k f:Tok}{n b e c d:Nat}(l:K.lookup a=some ⟨.type "tuple",i,.seq #[.int (b:Nat) h,.int (e:Nat) g,.int (c:Nat) k,.int (d:Nat) f] n,j⟩):iD K a (vN [b,e,c,d]):=
 ⟨_,_,_,l,rfl,rfl,(by show 4<=sizeLine;decide),.cons ⟨_,rfl⟩ (.cons ⟨_,rfl⟩ (.cons ⟨_,rfl⟩ (.cons ⟨_,rfl⟩ .nil)))⟩
theorem xM2{l:PySem.W.OpenLaw}{w:ak}{K:PySem.W.Frag}{h:ao}{mg:aq->Option aa}{fa fL c a O0 O1 O2 O3 X0 i X2 X3 X4 X5 X6 X7 X8:ae}(X:K.In h)(G:h.Ns mainGlobals mg)(hfa:mg "law"=some (.ref fa)){odL anL:Option ae}{slL:Array (Option aa)}{ocL Y dcL V8 QO A:aa}{t0 t1 t2 t3:Tok}
  (aL:PySem.W.nsIn K mainGlobals "law"=some (some (.ref fL))) (lL:K.lookup fL=some ⟨ocL,odL,.func (PySem.W.fnOf "law" "law" (qF lM) (oA lM) (cg lM) .none Y dcL V8 anL QO A),slL⟩) (cL:PySem.W.codeIn K QO "law"=true) (kL:PySem.W.keepIn K (.ref fL)=true)
  (g0:PySem.W.nsIn K mainGlobals "FIRST"=some (some (.int 2 t0))) (g1:PySem.W.nsIn K mainGlobals "FULL"=some (some (.int 1 t1))) (g2:PySem.W.nsIn K mainGlobals "GREATEST_SIZE"=some (some (.int 12 t2))) (g3:PySem.W.nsIn K mainGlobals "EMPTY"=some (some (.int 0 t3)))
  (d0:dm K "is_whole" uX) (d1:dm K "is_plain" uW) (d2:dm K "depths_of" ym) (d3:dm K "end_rows" qv) (d4:dm K "places_as_ended" AD) (d5:dm K "renumbered" uV) (d6:dm K "shape_of" HE) (d7:dm K "is_size" yk) (d8:dm K "side_of" GZ) (d9:dm K "is_number" tL) (d10:dm K "is_row" l_) (d11:dm K "are_rows" tS) (JL:dm K "is_telling" vf) (d13:dm K "is_shape" tG) (d14:dm K "want_shape" uU) (d15:dm K "want_one_floor" uT) (d16:dm K "exchanged" Dp) (d17:dm K "exchanged_rows" AY) (d18:dm K "both_ways" GY) (d19:dm K "number_beside_plain" IJ) (d20:dm K "brought_together" ve) (d21:dm K "joined" SO) (d22:dm K "cut" Cq) (d23:dm K "without" MI) (d24:dm K "unlike" Me) (d25:dm K "left_out" GV) (d26:dm K "lies_in" Ka) (d27:dm K "some_full_cell" CT) (d28:dm K "parting" MH) (d29:dm K "gather_pairs" IH) (d30:dm K "pairs" Ip) (d31:dm K "_law_purse" Io) (d32:dm K "_law_draw" tR) (d33:dm K "_law_quarter" HD) (d34:dm K "_law_depths" A8) (d35:dm K "_law_rows" yj) (d36:dm K "_law_ends" GJ) (d37:dm K "_law_shape" AX) (d38:dm K "_law_drawn" C6) (d39:dm K "_law_two" t7) (d40:dm K "_law_deed" GH) (d41:dm K "_law_class_of" HC) (d42:dm K "_law_refusal" HB) (d43:dm K "_law_odd" t8) (d44:dm K "_law_spoiled" HA) (d45:dm K "_law_deed_right" HZ)
  (z0:gn K "isinstance") (z1:gn K "int") (z2:gn K "bool") (z3:gn K "tuple") (z4:gn K "list") (z5:gn K "set") (z6:gn K "len") (z7:gn K "all") (z8:gn K "any") (z9:gn K "enumerate") (J_:gn K "range") (J9:gn K "max") (J8:gn K "min") (J7:gn K "zip") (J6:gn K "ValueError")
  (QW:PySem.W.nsIn K mainGlobals "Book"=some (some (.ref c))) (QL:pL K c) (NK:PySem.W.makesIn K c=true) (N5:PySem.W.keepIn K (.ref c)=true) (qT:a_ K c "kept") (qS:a_ K c "numbers") (rf:AS K c "__init__" "Book.__init__" IK) (q_:AS K c "number_for" "Book.number_for" C7) (q9:AS K c "numbers_for" "Book.numbers_for" Mg)
  (QV:PySem.W.nsIn K mainGlobals "Deed"=some (some (.ref a))) (QK:pL K a) (NJ:PySem.W.makesIn K a=true) (NZ:PySem.W.keepIn K (.ref a)=true) (qR:a_ K a "rows") (qQ:a_ K a "other_rows") (qP:a_ K a "outcomes") (qO:a_ K a "book") (qN:a_ K a "ways") (qM:a_ K a "other_ways") (qL:a_ K a "known") (qZ:AS K a "__init__" "Deed.__init__" Mf) (qY:AS K a "number_for_pair" "Deed.number_for_pair" II)
  (Np:PySem.W.nsIn K mainGlobals "JOINED"=some (some (.ref O0)))
  (Nn:PySem.W.nsIn K mainGlobals "CUT"=some (some (.ref O1)))
  (Nm:PySem.W.nsIn K mainGlobals "WITHOUT"=some (some (.ref O2)))
  (Nl:PySem.W.nsIn K mainGlobals "UNLIKE"=some (some (.ref O3)))
  (DB:iD K O0 (vN [0,1,1,1]))
  (gf:iD K O1 (vN [0,0,0,1]))
  (mq:iD K O2 (vN [0,0,1,0]))
  (Nq:iD K O3 (vN [0,1,1,0]))
  (Kt:PySem.W.nsIn K mainGlobals "NoShape"=some (some (.ref X0)))
  (Kr:PySem.W.nsIn K mainGlobals "OtherFloor"=some (some (.ref i)))
  (Kq:PySem.W.nsIn K mainGlobals "FloorError"=some (some (.ref X2)))
  (Kp:PySem.W.nsIn K mainGlobals "NoCell"=some (some (.ref X3)))
  (Ko:PySem.W.nsIn K mainGlobals "NoFloor"=some (some (.ref X4)))
  (Kn:PySem.W.nsIn K mainGlobals "NoNumber"=some (some (.ref X5)))
  (Km:PySem.W.nsIn K mainGlobals "NoTelling"=some (some (.ref X6)))
  (Kl:PySem.W.nsIn K mainGlobals "NoText"=some (some (.ref X7)))
  (Kk:PySem.W.nsIn K mainGlobals "TooMany"=some (some (.ref X8)))
  (KL:fy K X0)
  (KJ:fy K i)
  (xk:xR2 K X0 i X2 X3 X4 X5 X6 X7 X8=true):
  ∃fd:ai,(∀(s:af)(v:aa),BindsTo s fd ⟨[v],[]⟩ [("_law_script",v)])/\∀base:ao,K.In base->base.Ns mainGlobals mg->aB l.prog w K mg base aJ 24 fa fd ["_law_script"] (Gu K):=by
 have e:=hfa.symm.trans (Zj X G aL);cases e;have f:∀{x:aq},gn K x->mg x=none:=λz=>PySem.W.mg_none_of X G z;have B:d_ mg:=⟨f z0,f z1,f z2,f z3,f z4,f z5,f z6,f z7,f z8,f z9,f J_,f J9,f J8⟩;have T:lh mg:=⟨⟨t0,Zj X G g0⟩,⟨t1,Zj X G g1⟩,⟨t2,Zj X G g2⟩⟩;have FL:=M5 (st:=lM) lL cL kL;obtain⟨f0,fd0,a0,F0⟩:=d0;have h0:=Zj X G a0;have b0:=F0.binds (ps:=["thing"]) λ_ _ _ _ _ _=>l4 λ_=>rfl;obtain⟨f1,fd1,a1,F1⟩:=d1;have h1:=Zj X G a1;have b1:=F1.binds (ps:=["row"]) λ_ _ _ _ _ _=>l4 λ_=>rfl;obtain⟨f2,fd2,a2,F2⟩:=d2;have h2:=Zj X G a2;have b2:=F2.binds (ps:=["rows"]) λ_ _ _ _ _ _=>l4 λ_=>rfl;obtain⟨f3,fd3,a3,F3⟩:=d3;have h3:=Zj X G a3;have b3:=F3.binds (ps:=["rows","number","ended"]) λ_ _ _ _ _ _=>pM λ_ _ _=>rfl;obtain⟨f4,fd4,a4,S⟩:=d4;have h4:=Zj X G a4;have b4:=S.binds (ps:=["rows","top"]) λ_ _ _ _ _ _=>ll λ_ _=>rfl;obtain⟨f5,fd5,a5,F5⟩:=d5;have h5:=Zj X G a5;have b5:=F5.binds (ps:=["row","numbers"]) λ_ _ _ _ _ _=>ll λ_ _=>rfl;obtain⟨f6,fd6,a6,F6⟩:=d6;have h6:=Zj X G a6;have b6:=F6.binds (ps:=["n","top","rows"]) λ_ _ _ _ _ _=>pM λ_ _ _=>rfl;obtain⟨f7,fd7,a7,y⟩:=d7;have h7:=Zj X G a7;have b7:=y.binds (ps:=["thing"]) λ_ _ _ _ _ _=>l4 λ_=>rfl;obtain⟨f8,fd8,a8,F8⟩:=d8;have h8:=Zj X G a8;have b8:=F8.binds (ps:=["n"]) λ_ _ _ _ _ _=>l4 λ_=>rfl;obtain⟨f9,fd9,a9,g⟩:=d9;have Z:=Zj X G a9;have J:=g.binds (ps:=["thing","many"]) λ_ _ _ _ _ _=>ll λ_ _=>rfl;obtain⟨f10,fd10,QY,M⟩:=d10;have h10:=Zj X G QY;have BD:=M.binds (ps:=["thing","before"]) λ_ _ _ _ _ _=>ll λ_ _=>rfl;obtain⟨f11,fd11,a11,q⟩:=d11;have Qm:=Zj X G a11;have QS:=q.binds (ps:=["thing"]) λ_ _ _ _ _ _=>l4 λ_=>rfl;obtain⟨f12,fd12,a12,k⟩:=JL;have Ql:=Zj X G a12;have QR:=k.binds (ps:=["thing"]) λ_ _ _ _ _ _=>l4 λ_=>rfl;obtain⟨f13,fd13,a13,r⟩:=d13;have h13:=Zj X G a13;have b13:=r.binds (ps:=["thing"]) λ_ _ _ _ _ _=>l4 λ_=>rfl;obtain⟨f14,fd14,a14,m⟩:=d14;have JH:=Zj X G a14;have JO:=m.binds (ps:=["shape"]) λ_ _ _ _ _ _=>l4 λ_=>rfl;obtain⟨f15,fd15,a15,p⟩:=d15;have pX:=Zj X G a15;have JN:=p.binds (ps:=["one","other"]) λ_ _ _ _ _ _=>ll λ_ _=>rfl;obtain⟨f16,fd16,a16,Ro⟩:=d16;have h16:=Zj X G a16;have E:=Ro.binds (ps:=["number"]) λ_ _ _ _ _ _=>l4 λ_=>rfl;obtain⟨f17,fd17,a17,J4⟩:=d17;have h17:=Zj X G a17;have V:=J4.binds (ps:=["rows"]) λ_ _ _ _ _ _=>l4 λ_=>rfl;obtain⟨f18,fd18,a18,Rn⟩:=d18;have h18:=Zj X G a18;have b18:=Rn.binds (ps:=["book","rows"]) λ_ _ _ _ _ _=>ll λ_ _=>rfl;obtain⟨f19,fd19,a19,F19⟩:=d19;have h19:=Zj X G a19;have b19:=F19.binds (ps:=["ways","number","outcomes"]) λ_ _ _ _ _ _=>pM λ_ _ _=>rfl;obtain⟨f20,fd20,a20,j⟩:=d20;have JG:=Zj X G a20;have JM:=j.binds (ps:=["one","other","outcomes"]) λ_ _ _ _ _ _=>pM λ_ _ _=>rfl;obtain⟨f21,fd21,a21,Rm⟩:=d21;have h21:=Zj X G a21;have b21:=Rm.binds (ps:=["one","other"]) λ_ _ _ _ _ _=>ll λ_ _=>rfl;obtain⟨f22,fd22,a22,Rl⟩:=d22;have h22:=Zj X G a22;have b22:=Rl.binds (ps:=["one","other"]) λ_ _ _ _ _ _=>ll λ_ _=>rfl;obtain⟨f23,fd23,a23,JZ⟩:=d23;have R:=Zj X G a23;have F:=JZ.binds (ps:=["one","other"]) λ_ _ _ _ _ _=>ll λ_ _=>rfl;obtain⟨f24,fd24,a24,JY⟩:=d24;have C:=Zj X G a24;have b24:=JY.binds (ps:=["one","other"]) λ_ _ _ _ _ _=>ll λ_ _=>rfl;obtain⟨f25,fd25,a25,JX⟩:=d25;have h25:=Zj X G a25;have b25:=JX.binds (ps:=["shape"]) λ_ _ _ _ _ _=>l4 λ_=>rfl;obtain⟨f26,fd26,a26,Rk⟩:=d26;have h26:=Zj X G a26;have b26:=Rk.binds (ps:=["one","other"]) λ_ _ _ _ _ _=>ll λ_ _=>rfl;obtain⟨f27,fd27,a27,Rj⟩:=d27;have h27:=Zj X G a27;have b27:=Rj.binds (ps:=["shape"]) λ_ _ _ _ _ _=>l4 λ_=>rfl;obtain⟨f28,fd28,a28,Ri⟩:=d28;have h28:=Zj X G a28;have b28:=Ri.binds (ps:=["one","other"]) λ_ _ _ _ _ _=>ll λ_ _=>rfl;obtain⟨f29,fd29,a29,Rh⟩:=d29;have h29:=Zj X G a29;have O:=Rh.binds (ps:=["rows","other_rows","pair","found"]) λ_ _ _ _ _ _=>K6 λ_ _ _ _=>rfl;obtain⟨f30,fd30,a30,JW⟩:=d30;have h30:=Zj X G a30;have b30:=JW.binds (ps:=["one","other"]) λ_ _ _ _ _ _=>ll λ_ _=>rfl;obtain⟨f31,fd31,a31,D⟩:=d31;have h31:=Zj X G a31;have b31:=D.binds (ps:=["_law_script","_law_k"]) λ_ _ _ _ _ _=>ll λ_ _=>rfl;obtain⟨f32,fd32,a32,u⟩:=d32;have H:=Zj X G a32;have W:=u.binds (ps:=["_law_purse_here","_law_many"]) λ_ _ _ _ _ _=>ll λ_ _=>rfl;obtain⟨f33,fd33,a33,F33⟩:=d33;have h33:=Zj X G a33;have b33:=F33.binds (ps:=["_law_purse_here","_law_may"]) λ_ _ _ _ _ _=>ll λ_ _=>rfl;obtain⟨f34,fd34,a34,Rg⟩:=d34;have N:=Zj X G a34;have U:=Rg.binds (ps:=["_law_rows_here"]) λ_ _ _ _ _ _=>l4 λ_=>rfl;obtain⟨f35,fd35,a35,JV⟩:=d35;have I:=Zj X G a35;have b35:=JV.binds (ps:=["_law_purse_here","_law_n","_law_most","_law_begun"]) λ_ _ _ _ _ _=>K6 λ_ _ _ _=>rfl;obtain⟨f36,fd36,a36,L⟩:=d36;have h36:=Zj X G a36;have b36:=L.binds (ps:=["_law_number","_law_kept","_law_found"]) λ_ _ _ _ _ _=>pM λ_ _ _=>rfl;obtain⟨f37,fd37,a37,Rf⟩:=d37;have h37:=Zj X G a37;have b37:=Rf.binds (ps:=["_law_n","_law_top","_law_rows_here"]) λ_ _ _ _ _ _=>pM λ_ _ _=>rfl;obtain⟨f38,fd38,a38,JU⟩:=d38;have Q:=Zj X G a38;have b38:=JU.binds (ps:=["_law_purse_here","_law_n","_law_rows_here"]) λ_ _ _ _ _ _=>pM λ_ _ _=>rfl;obtain⟨f39,fd39,a39,Rc⟩:=d39;have h39:=Zj X G a39;have b39:=Rc.binds (ps:=["_law_purse_here","_law_n","_law_most"]) λ_ _ _ _ _ _=>pM λ_ _ _=>rfl;obtain⟨f40,fd40,a40,Rb⟩:=d40;have h40:=Zj X G a40;have b40:=Rb.binds (ps:=["_law_k","_law_one","_law_other"]) λ_ _ _ _ _ _=>pM λ_ _ _=>rfl;obtain⟨f41,fd41,a41,JT⟩:=d41;have h41:=Zj X G a41;have b41:=JT.binds (ps:=["_law_e"]) λ_ _ _ _ _ _=>l4 λ_=>rfl;obtain⟨f42,fd42,a42,Ra⟩:=d42;have h42:=Zj X G a42;have b42:=Ra.binds (ps:=["_law_k","_law_one","_law_other"]) λ_ _ _ _ _ _=>pM λ_ _ _=>rfl;obtain⟨f43,fd43,a43,Q_⟩:=d43;have h43:=Zj X G a43;have b43:=Q_.binds (ps:=["_law_shape_here"]) λ_ _ _ _ _ _=>l4 λ_=>rfl;obtain⟨f44,fd44,a44,Q9⟩:=d44;have h44:=Zj X G a44;have b44:=Q9.binds (ps:=["_law_purse_here","_law_shape_here"]) λ_ _ _ _ _ _=>ll λ_ _=>rfl;obtain⟨f45,fd45,a45,Q8⟩:=d45;have h45:=Zj X G a45;have b45:=Q8.binds (ps:=["_law_k","_law_shapes","_law_odd_here"]) λ_ _ _ _ _ _=>pM λ_ _ _=>rfl;obtain⟨wg,NQ,wu,wd,r9⟩:=rf;have me0_0:Meth K c "__init__" wg:=⟨wu,wd,r9.kp⟩;have D8:=r9.binds (ps:=["self"]) λ_ _ _ _ _ _=>l4 λ_=>rfl;obtain⟨DX,NP,Eb,DT,oX⟩:=q_;have wk:Meth K c "number_for" DX:=⟨Eb,DT,oX.kp⟩;have wq:=oX.binds (ps:=["self","row"]) λ_ _ _ _ _ _=>ll λ_ _=>rfl;obtain⟨DW,NO,Ea,DS,rZ⟩:=q9;have DZ:Meth K c "numbers_for" DW:=⟨Ea,DS,rZ.kp⟩;have D7:=rZ.binds (ps:=["self","rows"]) λ_ _ _ _ _ _=>ll λ_ _=>rfl;have mm0:Mk K c wg:=⟨NK,wu,wd,N5⟩;obtain⟨we,NN,wt,wc,rY⟩:=qZ;have me1_0:Meth K a "__init__" we:=⟨wt,wc,rY.kp⟩;have D0:=rY.binds (ps:=["self","rows","other_rows","outcomes"]) λ_ _ _ _ _ _=>K6 λ_ _ _ _=>rfl;obtain⟨DV,NM,D_,DR,rX⟩:=qY;have wj:Meth K a "number_for_pair" DV:=⟨D_,DR,rX.kp⟩;have wo:=rX.binds (ps:=["self","number","other"]) λ_ _ _ _ _ _=>pM λ_ _ _=>rfl;have mm1:Mk K a we:=⟨NJ,wt,wc,NZ⟩;refine⟨PySem.W.fnOf "law" "law" (qF lM) (oA lM) (cg lM) .none Y dcL V8 anL QO A,λs v=>.of_eq rfl,λbase _ _=>?_⟩;have xj:aB l.prog w K mg base aJ 2 _ _ _ _:=xz2 y B T h0 F0 b0;have zQ:aB l.prog w K mg base aJ 2 _ _ _ _:=xa3 g B T h0 F0 b0;have P:∀d,aB l.prog w K mg base aJ (d+2) _ _ _ (CL d):=λd=>UN S B T h3 F3 b3 d;have Qo:aB l.prog w K mg base aJ 3 _ _ _ _:=xI8 M B Z g J zQ;have xl:aB l.prog w K mg base aJ 4 _ _ _ _:=xz6 q B h10 M BD Qo;have Fp:aB l.prog w K mg base aJ 5 _ _ _ _:=q14 k B h7 y b7 xj Qm q QS xl Z g J zQ h2 F2 b2;have zO:aB l.prog w K mg base aJ 15 _ _ _ _:=xl9 r B T Ql k QR Fp h1 F1 b1 h4 S b4 P;have xi:aB l.prog w K mg base aJ 16 _ _ _ _:=xm4 m h13 r b13 zO;have jT:∃t,mg "EMPTY"=some (.int 0 t):=⟨t3,Zj X G g3⟩;have gSO:aB l.prog w K mg base aJ 15 _ _ _ _:=xP6 F6 B T jT h4 S b4 h3 F3 b3 h5 F5 b5;have Fs:aB l.prog w K mg base aJ 2 _ _ _ _:=xq4 J4 B T h16 Ro E;have TB:fz K mg c:=⟨QL,qT,qS,Zj X G QW⟩;have TD:uE K mg a:=⟨QK,qR,qQ,qP,qO,qN,qM,qL,Zj X G QV⟩;have gBN:aB l.prog w K mg base aJ 4 _ _ _ (Kz c):=xD3 rZ B T jT TB wk oX wq h5 F5 b5 h1 F1 b1;have gBW:aB l.prog w K mg base aJ 5 _ _ _ (xU c):=xQ1 (fE:=0) (fdE:=fd0) Rn B T jT TB DZ D7 gBN h17 J4 V Fs;have gDI:aB l.prog w K mg base aJ 6 _ _ _ (xT a c):=xQ3 rY TD TB mm0 r9 D8 h18 Rn b18 gBW;have pF:mg "zip"=none:=f J7;have gNP:∀d,aB l.prog w K mg base aJ (d+4) _ _ _ (xN K a c d):=xQ4 rX B pF T TD TB wj wo wk oX wq h1 F1 b1 h19 F19 b19;have gWO:aB l.prog w K mg base aJ 17 _ _ _ sX:=xQ5 p JH m JO xi;have gBT:aB l.prog w K mg base aJ 18 _ _ _ (nq K):=xQ6 j TD TB pX p JN gWO mm1 D0 gDI wj wo gNP h6 F6 b6 gSO;obtain⟨xk0,xk1⟩:=Wc.mp xk;obtain⟨kS,eS,mS⟩:=Sd xk0 KL;obtain⟨kO,eO,mO⟩:=Sd xk1 KJ;have XT:Kc mg X0 i X2 X3 X4 X5 X6 X7 X8:=⟨Zj X G Kt,Zj X G Kr,Zj X G Kq,Zj X G Kp,Zj X G Ko,Zj X G Kn,Zj X G Km,Zj X G Kl,Zj X G Kk,f J6⟩;have XF:Kf3 K X0 i X2:=⟨mS,mO⟩;have zM:aB l.prog w K mg base aJ 5 _ _ _ LI:=qT4 k B h7 y b7 xj Qm q QS xl Z g J zQ h2 F2 b2;have ur:aB l.prog w K mg base aJ 15 _ _ _ MD:=xb3 r B T Ql k QR zM h1 F1 b1 h4 S b4 P;have zN:aB l.prog w K mg base aJ 2 _ _ _ L_:=xo1 y B T h0 F0 b0;have xm:aB l.prog w K mg base aJ 2 _ _ _ HM:=q24 g B T h0 F0 b0;have Fq:aB l.prog w K mg base aJ 3 _ _ _ KH:=xA4 M B Z g J xm;have zP:aB l.prog w K mg base aJ 4 _ _ _ L9:=xo2 q B h10 M BD Fq;have uo:aB l.prog w K mg base aJ 5 _ _ _ Mv:=xd5 k B h7 y b7 zN Qm q QS zP Z g J xm h2 F2 b2;have uq:aB l.prog w K mg base aJ 15 _ _ _ Mu:=xd6 ur (q25 r Ql k QR uo);have gWS:aB l.prog w K mg base (fc l.prog w) 16 _ _ _ (Hr X0):=xd7 m XT.s eS h13 r b13 uq;have Fn:aB l.prog w K mg base (fc l.prog w) 17 _ _ _ (BK X0 i):=xL0 p XT.o eO JH m JO gWS;have uu:=GC (K4 gBT) (xL5 j pX p JN Fn);have gJ:=q36 Rm JG j JM uu (Zj X G Np) DB;have gC:=xE1 Rl JG j JM uu (Zj X G Nn) gf;have gW:=qU6 JZ JG j JM uu (Zj X G Nm) mq;have gU:=q37 JY JG j JM uu (Zj X G Nl) Nq;have gLi:=xq9 Rk jT R JZ F gW;have gSF:aB l.prog w K mg base aJ 2 _ _ _ xI:=xQ7 Rj T jT h8 F8 b8;have gPt:=xr0 Ri C JY b24 gU h27 Rj b27 gSF;have gGP:∀d,aB l.prog w K mg base aJ (d+1) _ _ _ (xP d):=xQ8 Rh T pF h29 O;have gPs:aB l.prog w K mg base aJ 18 _ _ _ LX:=xq8 JW B pX p JN gWO h29 Rh O gGP;have Qp:=xi2 JW gPs pX p JN Fn;have gLf:aB l.prog w K mg base aJ 17 _ _ _ Kw:=xE0 JX B T JH m JO xi h16 Ro E h17 J4 V Fs;have Qr:=xr1 JX gLf JH m JO gWS;have gDe:aB l.prog w K mg base (fc l.prog w) 21 _ _ _ (xS X0 i):=xQ9 Rb (xq h21 Rm b21 ((IB gJ).mono 'c')) (xq h22 Rl b22 ((IB gC).mono 'c')) (xq R JZ F ((IB gW).mono 'c')) (xq C JY b24 ((IB gU).mono 'c')) (xq h26 Rk b26 gLi) (xq h28 Ri b28 gPt) (xq h30 JW b30 (Qp.mono 'c')) (xq h25 JX b25 (Qr.mono 'c'));have gCl:∀x,ix l.prog w K mg base 1 x _ _ _ (RC X0 i x):=λx=>xL6 (RD (b:=false) JT B XT kS rfl) (RD (b:=true) JT B XT kO rfl);have gRl:aB l.prog w K mg base aJ 22 _ _ _ xK:=xR0 Ra XT.fe XF h40 Rb b40 gDe h41 JT b41 gCl;have gLR:aB l.prog w K mg base aJ 3 _ _ _ _:=xr3 JV B H u W h33 F33 b33 N Rg U;have gLS:aB l.prog w K mg base aJ 14 _ _ _ _:=xi9 Rf B h36 L b36;have gLD:aB l.prog w K mg base aJ 15 _ _ _ _:=xr4 JU B H u W h37 Rf b37 gLS;have gTw:aB l.prog w K mg base aJ 16 _ _ _ KR:=xM0 Rc B H u W I JV b35 gLR Q JU b38 gLD;have gOd:aB l.prog w K mg base aJ 2 _ _ _ xM:=xP0 Q_ B N Rg U;have gSp:aB l.prog w K mg base aJ 2 _ _ _ xH:=xP4 Q9 B H u W;have gDr:aB l.prog w K mg base aJ 23 _ _ _ xR:=xR1 Q8 h42 Ra b42 gRl;exact xM1 FL B h31 D b31 H u W h39 Rc b39 gTw I JV b35 gLR Q JU b38 gLD h43 Q_ b43 gOd h44 Q9 b44 gSp h45 Q8 b45 gDr
theorem walk{l:PySem.W.OpenLaw}{q:ah}{loose:List aq}{XP:(aq->Option aa)->ao->Prop}{YP:ak->ao->Prop}{d:DefRec}{K:Params->PySem.W.Frag}(p:l.most=some 63)(e:d.params.defaults=[])
  (r:∀(w:ak)(h:ao),YP w h->(K w.params).In h)
  (F:∀(w:ak)(mg:aq->Option aa)(b:ae)(h:ao),(K w.params).In h->h.Ns mainGlobals mg->mg d.name=some (.ref b) ->
   ∃c:ai,(∀(s:af)(u:aa),BindsTo s c ⟨[u],[]⟩ [("_law_script",u)])/\∀base:ao,(K w.params).In base->base.Ns mainGlobals mg->aB l.prog w (K w.params) mg base aJ 24 b c ["_law_script"] (Gu (K w.params))):
  PySem.W.WalkO q loose XP YP l.row.toRowW d [] (λf m=>PySem.call f m):=
 L2.xw8 (n:=63) (k:=24) (x:= "_law_script") (CX:=λ_=>aJ) (sp:=λw=>Gu (K w.params)) p 'c' e ⟨rfl,by decide,by decide,rfl⟩ r F (λ_ _ a j g _ i=>⟨a,j,rfl,i,g,λ_=>rfl⟩) λ_ _ _ _ _ z=>z
end Pr
open PySem PySem.W PyProof.Rows
set_option maxRecDepth 100000 in
set_option maxHeartbeats 0 in
theorem PySem.Challenge.cw_quarterfold_k36_deeds_refused_holds : PySem.Challenge.rw_quarterfold_k36_deeds_refused.Holds := by
 w_on;o_law
 refine holds_open (q:=Hd.q0) (loose:=[]) (Xt:=Hd.X0) (XP:=XL Hd.q0 []) (YP:=Hook.says (kHook Hd.K0 Hd.xr Hd.nS)) (N:=Hd.N0) Hd.xM3
  (Hook.of (kHook Hd.K0 Hd.xr Hd.nS)) (Hook.keeps (kHook Hd.K0 Hd.xr Hd.nS)) (λs e=>xl_of s (Wc.mp e).1) XL.keeps
  'd' 'd' 'd' (λs e=>recFacts_of (Wc.mp e).2)
  'd' (by first|assumption|decide +kernel) (by decide +kernel) ⟨rfl,rfl,rfl,rfl,rfl,by decide +kernel⟩ ?hw ?hc
 case hw=>w_witness2
 k_fill
 refine Pr.walk (l:=PySem.Challenge.rw_quarterfold_k36_deeds_refused) rfl rfl (λw h Y=>PySem.W.kIn_of Y) ?F
 case F=>
  intro w mg fa h KX G EK;refine' Pr.xM2 KX G EK ?aL ?lL ?cL ?kL ?gc0 ?gc1 ?gc2 ?gc3 ?d0 ?d1 ?d2 ?d3 ?d4 ?d5 ?d6 ?d7 ?d8 ?d9 ?d10 ?d11 ?JL ?d13 ?d14 ?d15 ?d16 ?d17 ?d18 ?d19 ?d20 ?d21 ?d22 ?d23 ?d24 ?d25 ?d26 ?d27 ?d28 ?d29 ?d30 ?d31 ?d32 ?d33 ?d34 ?d35 ?d36 ?d37 ?d38 ?d39 ?d40 ?d41 ?d42 ?d43 ?d44 ?d45 ?z0 ?z1 ?z2 ?z3 ?z4 ?z5 ?z6 ?z7 ?z8 ?z9 ?J_ ?J9 ?J8 ?J7 ?J6 ?QW ?QL ?NK ?N5 ?qT ?qS ?rf ?q_ ?q9 ?QV ?QK ?NJ ?NZ ?qR ?qQ ?qP ?qO ?qN ?qM ?qL ?qZ ?qY ?Np ?Nn ?Nm ?Nl ?DB ?gf ?mq ?Nq ?Kt ?Kr ?Kq ?Kp ?Ko ?Kn ?Km ?Kl ?Kk ?KL ?KJ ?xk
  (case aL=>k_is);(case lL=>k_is);(case cL=>k_is);(case kL=>k_is)
  (case gc0=>k_is)
  (case gc1=>k_is)
  (case gc2=>k_is)
  (case gc3=>k_is)
  (case z0=>unfold Pr.gn;k_is)
  (case z1=>unfold Pr.gn;k_is)
  (case z2=>unfold Pr.gn;k_is)
  (case z3=>unfold Pr.gn;k_is)
  (case z4=>unfold Pr.gn;k_is)
  (case z5=>unfold Pr.gn;k_is)
  (case z6=>unfold Pr.gn;k_is)
  (case z7=>unfold Pr.gn;k_is)
  (case z8=>unfold Pr.gn;k_is)
  (case z9=>unfold Pr.gn;k_is)
  (case J_=>unfold Pr.gn;k_is)
  (case J9=>unfold Pr.gn;k_is)
  (case J8=>unfold Pr.gn;k_is)
  (case J7=>unfold Pr.gn;k_is)
  (case J6=>unfold Pr.gn;k_is)
  (case QW=>k_is)
  (case QL=>refine' ⟨?pa,?pb,?pc,?pd⟩;(case pa=>k_is);(case pb=>k_is);(case pc=>k_is);(case pd=>k_is))
  (case NK=>k_is);(case N5=>k_is)
  (case qT=>unfold L2.a_;k_is)
  (case qS=>unfold L2.a_;k_is)
  (case rf=>refine' Pr.rg ?qa ?qi ?ql ?qc ?qk;(case qa=>k_is);(case qi=>k_is);(case ql=>k_is);(case qc=>k_is);(case qk=>k_is))
  (case q_=>refine' Pr.rg ?qa ?qi ?ql ?qc ?qk;(case qa=>k_is);(case qi=>k_is);(case ql=>k_is);(case qc=>k_is);(case qk=>k_is))
  (case q9=>refine' Pr.rg ?qa ?qi ?ql ?qc ?qk;(case qa=>k_is);(case qi=>k_is);(case ql=>k_is);(case qc=>k_is);(case qk=>k_is))
  (case QV=>k_is)
  (case QK=>refine' ⟨?pa,?pb,?pc,?pd⟩;(case pa=>k_is);(case pb=>k_is);(case pc=>k_is);(case pd=>k_is))
  (case NJ=>k_is);(case NZ=>k_is)
  (case qR=>unfold L2.a_;k_is)
  (case qQ=>unfold L2.a_;k_is)
  (case qP=>unfold L2.a_;k_is)
  (case qO=>unfold L2.a_;k_is)
  (case qN=>unfold L2.a_;k_is)
  (case qM=>unfold L2.a_;k_is)
  (case qL=>unfold L2.a_;k_is)
  (case qZ=>refine' Pr.rg ?qa ?qi ?ql ?qc ?qk;(case qa=>k_is);(case qi=>k_is);(case ql=>k_is);(case qc=>k_is);(case qk=>k_is))
  (case qY=>refine' Pr.rg ?qa ?qi ?ql ?qc ?qk;(case qa=>k_is);(case qi=>k_is);(case ql=>k_is);(case qc=>k_is);(case qk=>k_is))
  (case Np=>k_is)
  (case Nn=>k_is)
  (case Nm=>k_is)
  (case Nl=>k_is)
  (case DB=>refine' Pr.Gr ?qa;(case qa=>k_is))
  (case gf=>refine' Pr.Gr ?qa;(case qa=>k_is))
  (case mq=>refine' Pr.Gr ?qa;(case qa=>k_is))
  (case Nq=>refine' Pr.Gr ?qa;(case qa=>k_is))
  (case Kt=>k_is)
  (case Kr=>k_is)
  (case Kq=>k_is)
  (case Kp=>k_is)
  (case Ko=>k_is)
  (case Kn=>k_is)
  (case Km=>k_is)
  (case Kl=>k_is)
  (case Kk=>k_is)
  (case KL=>refine' Pr.Fw ?q1 ?q2 ?q3 ?q4 ?q5 ?q6 ?q7 ?q8;(case q1=>k_is);(case q2=>k_is);(case q3=>k_is);(case q4=>k_is);(case q5=>k_is);(case q6=>k_is);(case q7=>k_is);(case q8=>k_is))
  (case KJ=>refine' Pr.Fw ?q1 ?q2 ?q3 ?q4 ?q5 ?q6 ?q7 ?q8;(case q1=>k_is);(case q2=>k_is);(case q3=>k_is);(case q4=>k_is);(case q5=>k_is);(case q6=>k_is);(case q7=>k_is);(case q8=>k_is))
  (case xk=>kernel_rfl)
  all_goals (refine' Pr.QI ?qa ?ql ?qc ?qk;(case qa=>k_is);(case ql=>k_is);(case qc=>k_is);(case qk=>k_is))