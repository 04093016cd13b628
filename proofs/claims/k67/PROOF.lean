import PyProof.Rows.All
import Wide.All
import OpenK.AllK
import Wide.FinOn
import Lean
import PyProof.EqAt
import PyProof.EqKinds
import PyProof.TupleCall
import Open.Row
import PySem.SetOps
import PyProof.SetRoads
import PyProof.Rows.SetFrom
import PyProof.FactsAll.subtypes_4
import PyProof.WalksMore
import OpenK.KOwn
import PyProof.NeData
import PyProof.ReprRoads
import PyProof.WalksEnum
import PyProof.EnumMake
import PyProof.Rows.EnumRows
import KE.KTryMore
import KE.KIntText
import KE.KDictList
import PyProof.ConsumeS
import PyProof.ListRange
import PyProof.ListMulRoad
import PyProof.CompUse
import PyProof.CompFree
import PyProof.DictUpdate
import PyProof.Rows.TupDisplay
import PyProof.DictWalks
import PyProof.TupleOfGen
import PyProof.TupleKey
import PySem.Challenge.RW_quarterfold_k67_whole_balance_of_boards
set_option Elab.async false
set_option linter.all false
set_option maxRecDepth 100000
set_option maxHeartbeats 8000000
def Za:=@PySem.wpAny_bind
def Zb:=@PySem.wpAny_pure
def Zc:=@PySem.Heap.get?_push_of_some
def Zd:=@List.getElem?_eq_getElem
def Ze:=@List.length_map
def Zf:=@Nat.le_refl
def Zg:=@List.getElem?_map
def Zh:=@if_neg
def Zi:=@List.length_append
def Zj:=@PySem.Heap.get?_push_size
def Zk:=@List.getElem?_append_right
def Zl:=@Option.map_eq_some_iff
def Zm:=@if_pos
def Zn:=@List.mem_cons_of_mem
def Zo:=@List.getElem?_append_left
def Zp:=@decide_eq_false
def Zq:=@decide_eq_true
def Zr:=@PySem.Heap.lt_size
def Zs:=@Bool.false_ne_true
def Zt:=@Bool.false_eq_true
def Zu:=@List.mem_cons_self
def Zv:=@List.mem_cons
def Zw:=@PySem.W.mg_of
def Zx:=@Nat.zero_le
def Zy:=@List.mem_of_getElem?
def Zz:=@List.map_cons
def ZA:=@List.size_toArray
def ZB:=@Nat.ne_of_lt
def ZC:=@Option.some.inj
def ZD:=@List.getD_eq_getElem?_getD
def ZE:=@List.map_append
def ZF:=@List.mem_map
def ZG:=@of_decide_eq_true
def ZH:=@Nat.le_trans
def ZI:=@List.mem_iff_getElem
def ZJ:=@Nat.lt_of_lt_of_le
def ZK:=@List.length_cons
def ZL:=@Nat.lt_succ_self
def ZM:=@PyProof.Rows.boot_tuple
def ZN:=@List.mem_append_right
def ZO:=@Bool.eq_iff_iff
def ZP:=@if_false
def ZQ:=@congrArg
def ZR:=@List.not_mem_nil
def ZS:=@Nat.lt_of_le_of_lt
def ZT:=@PySem.boot_len
def ZU:=@List.nodup_iff_pairwise_ne
def ZV:=@PySem.wpAny_callSpecial?_slot
def ZW:=@List.mem_range
def ZX:=@PySem.wpAny_truthy_bool
def ZY:=@PySem.wpAny_newObj_type
def ZZ:=@PyProof.Rows.slot_tuple_getitem
def Z0:=@PySem.PassesOwn.never
def Z1:=@PySem.wpAny_call_entry
def Z2:=@List.any_eq_true
def Z3:=@PySem.wpAny_holding
def Z4:=@decide_eq_true_iff
def Z5:=@PyProof.Rows.boot_isinstance
def Z6:=@Array.length_toList
def Z7:=@List.take_succ_eq_append_getElem
def Z8:=@PySem.W.kia_one
def Z9:=@List.nodup_cons
def Yb:=@List.range_succ
def Yc:=@List.lookup_cons
def Yd:=@Nat.mul_comm
def Ye:=@List.map_congr_left
def Yg:=@PyProof.Rows.boot_int
def Yh:=@Bool.and_false
def Yi:=@List.mem_append
def Yj:=@Nat.div_add_mod
def Yk:=@Nat.add_zero
def Yl:=@PySem.F.slot_dict_keyiterator_next
def Ym:=@Nat.lt_irrefl
def Yn:=@List.any_cons
def Yo:=@Bool.eq_false_iff
def Yp:=@beq_eq_false_iff_ne
def Yq:=@List.filterMap_cons
def Yr:=@List.mem_filter
def Ys:=@PySem.wpAny_field
def Yt:=@if_true
def Yu:=@PySem.wpAny_mono
def Yv:=@of_decide_eq_false
def Yw:=@List.filter_cons
def Yx:=@Nat.mul_assoc
def Yy:=@Nat.pow_succ
def Yz:=@Nat.sub_self
def YA:=@Bool.not_true
def YB:=@forall_congr'
def YC:=@PySem.Heap.size_push
def YD:=@PySem.lookup_relabel_local
def YE:=@PySem.wpAny_typeNameOfWhole_keyiter
def YF:=@List.exists_cons_of_length_eq_add_one
def YG:=@Int.toNat_natCast
def YH:=@List.find?_cons
def YI:=@Bool.or_eq_true
def YJ:=@Prod.ext
def YK:=@PySem.Heap.SameBut.update
def YL:=@PyProof.Rows.F.plain_set_update_loop
def YM:=@PyProof.Rows.callWith_type1
def YN:=@PySem.Paired.length
def YO:=@List.length_take
def YQ:=@Nat.div_eq_of_lt
def YR:=@List.all_eq_true
def YS:=@List.take_length
def YT:=@List.nodup_nil
def YU:=@Bool.not_false
def YV:=@PySem.F.slot_tuple_iterator_next
def YW:=@List.getElem?_eq_none
def YX:=@PySem.wpAny_specialOf
def YY:=@PySem.codeAny_builtin
def YZ:=@PySem.sizeLine_eq
def Y0:=@PySem.wpAny_setState_of
def Y1:=@PySem.Around.under_plainId
def Y2:=@Nat.lt_succ_of_lt
def Y3:=@List.length_range
def Y4:=@List.map_map
def Y5:=@Option.isSome_iff_exists
def Y6:=@Nat.mod_lt
def Y7:=@Bool.and_self
def Y8:=@List.take_append_getElem
def Y9:=@PySem.wpAny_typeNameOf_keyiter
def Xa:=@Bool.and_true
def Xb:=@List.cons.inj
def Xc:=@Ne.symm
def Xd:=@PySem.mem_of_lookup
def Xe:=@Nat.add_le_add_left
def Xf:=@Nat.mod_eq_of_lt
def Xg:=@PySem.wpAny_forIn_list
def Xh:=@Nat.le_add_right
def Xi:=@Sum.inl.inj
def Xj:=@List.map_nil
def Xk:=@PySem.wpAny_setField_rec
def Xl:=@PySem.wpAny_ite_split
def Xm:=@PySem.F.slot_int_rmul
def Xn:=@List.cons.injEq
def Xo:=@PySem.Heap.get?_update_self
def Xp:=@PySem.F.slot_enumerate_next
def Xq:=@PySem.wpAny_callSpecialIfBoundUnlessNone?_slot
def Xr:=@Nat.div_lt_iff_lt_mul
def Xs:=@PySem.wpAny_pyIter_list
def Xu:=@Option.isSome_map
def Xv:=@PySem.F.slot_tuple_hash
def Xw:=@List.foldl_append
def Xx:=@List.append_assoc
def Xy:=@List.nodup_append
def Xz:=@List.mem_append_left
def XA:=@or_false
def XB:=@Nat.pow_le_pow_right
def XC:=@Bool.and_eq_true_iff
def XD:=@Nat.succ.inj
def XE:=@List.getElem_mem
def XF:=@PySem.F.slot_tuple_mul
def XG:=@Nat.add_mul_mod_self_left
def XH:=@PySem.wpAny_binaryOp_repeat_ref
def XI:=@PyProof.Rows.F.entry_set_update_loop
def XJ:=@List.getElem?_range
def XM:=@Nat.div_mul_le_self
def XN:=@Prod.mk.injEq
def XO:=@PySem.F.args_tuple_add_2
def XQ:=@PySem.AutoSeq1.wpAny_loadPart'
def XR:=@PySem.F.slot_list_append
def XS:=@PySem.F.type_list_append
def XT:=@PySem.wpAny_passesOwn
def XU:=@Nat.two_pow_pos
def XV:=@Nat.not_lt_zero
def XW:=@List.foldl_cons
def XX:=@PySem.size_of_entries
def XY:=@Int.natCast_mul
def XZ:=@PySem.wpAny_pyIter_tuple
def X1:=@beq_iff_eq
def X2:=@PySem.wpAny_Call_Name_kw
def X3:=@PySem.tupleKind_room_in1
def X4:=@Int.emod_lt_of_pos
def X5:=@Array.forIn_toList
def X6:=@PySem.Obj.data_mapFields
def X7:=@Nat.add_sub_cancel
def X8:=@List.filter_append
def X9:=@List.mem_singleton
def Wa:=@PySem.F.entry_tuple_add
def Wb:=@PySem.F.plainAttrs_list
def Wc:=@Nat.le_of_lt
def Wd:=@Bool.false_and
def We:=@PySem.codeAny_mono
def Wf:=@PySem.F.slot_tuple_add
def Wg:=@PyProof.Rows.subscriptTail_builtinR
def Wh:=@Nat.div_div_eq_div_mul
def Wi:=@PySem.wpAny_dictEntries
def Wj:=@Nat.mul_le_mul
def Wk:=@List.pairwise_iff_forall_sublist
def Wl:=@List.length_filter_le
def Wm:=@PyProof.Rows.boot_max
def Wn:=@PyProof.Rows.boot_all
def Wo:=@PySem.wpAny_isOneOf_keyiter
def Wp:=@Bool.and_eq_true
def Wq:=@PySem.typeIs_int
def Wr:=@PySem.call_meets
def Ws:=@PySem.wpAny_isInstance
def Wt:=@PySem.F.slot_bool_hash
def Wu:=@PySem.wpAny_attempt
def Wv:=@Array.mem_extract_iff_getElem
def Ww:=@PySem.codeAny_call_builtin
def Wx:=@Option.map_some
def Wz:=@and_congr_right
def WA:=@PySem.wpAny_ret_mkInt
def WB:=@Nat.mul_add_div
def WC:=@PySem.W.plainGet_of
def WD:=@List.replicate_succ
def WE:=@Nat.ne_of_gt
def WF:=@Nat.le_of_eq
def WG:=@PySem.wpAny_typeOf
def WH:=@Nat.succ_mul
def WI:=@List.mem_filterMap
def WJ:=@PySem.W.callWith_K
def WK:=@Array.toList_setIfInBounds
def WL:=@PySem.wpAny_seqItems
def WM:=@PySem.wpAny_setField
def WN:=@PySem.wpAny_rule
def WO:=@PySem.F.args_tuple_mul_2
def WP:=@Int.natCast_nonneg
def WQ:=@PySem.wpAny_fieldsOf
def WR:=@PySem.wpAny_tupleItemsOf
def WS:=@List.zip_cons_cons
def WT:=@PySem.F.slot_dict_getitem
def WU:=@Array.getElem?_eq_getElem
def WV:=@List.any_eq_false
def WW:=@Nat.mul_add
def WX:=@Nat.mul_left_comm
def WY:=@Array.getElem_mem
def WZ:=@PySem.wpAny_of_eq
def W0:=@PySem.F.args_int_rmul_2
def W1:=@PySem.F.entry_tuple_mul
def W2:=@List.ext_getElem?
def W3:=@Nat.pow_pos
def W4:=@PySem.wpAny_cRoomFor_or
def W5:=@List.pairwise_map
def W6:=@Bool.not_or
def W7:=@Nat.le_of_not_lt
def W8:=@beq_self_eq_true
def W9:=@Nat.lt_trans
def Va:=@bind_congr
def Vb:=@Nat.add_comm
def Vc:=@Nat.mul_succ
def Vd:=@List.of_mem_zip
def Ve:=@List.forIn_cons
def Vf:=@List.length_nil
def Vg:=@Int.emod_nonneg
def Vh:=@Nat.le_succ
def Vi:=@Nat.one_mul
def Vj:=@Int.one_mul
def Vk:=@Nat.pow_add
def Vl:=@Nat.mul_pos
theorem gS_{α:Type}{l:List α}{i:Nat}{a:α}(h:l[i]?=some a):∃h:i<l.length,l[i]=a:=List.getElem?_eq_some_iff.mp h
namespace L2
open PySem
def qc6(s:Stmt)(j:Nat):Stmt:=match s with
 |.ClassDef _ _ _ body _ _ _ _ _ _ _=>body.getD j (.Pass ⟨0,0,0,0⟩)
 |_=>.Pass ⟨0,0,0,0⟩
def qf7(s:Stmt):Arguments:=match s with
 |.FunctionDef _ a _ _ _ _ _ _ _ _=>a
 |_=>{ posonlyargs:=[],args:=[],vararg:=none,kwonlyargs:=[],kw_defaults:=[],kwarg:=none,defaults:=[] }
def qf0(s:Stmt):List Stmt:=match s with
 |.FunctionDef _ _ b _ _ _ _ _ _ _=>b
 |_=>[]
def qa5(s:Stmt):Scope:=match s with
 |.FunctionDef _ _ _ _ _ _ sc _ _ _=>sc
 |_=>{ kind:=.function,names:=[],isGenerator:=false,isCoroutine:=false }
end L2
namespace Pr
open PySem
def top(i:Nat):Stmt:=PySem.Challenge.pw_quarterfold_k67_whole_balance_of_boards.main.body.getD i (.Pass ⟨0,0,0,0⟩)
end Pr
namespace Hd
open PySem PySem.W
abbrev pw:Program:=PySem.Challenge.pw_quarterfold_k67_whole_balance_of_boards
abbrev u0_:Value:=.str "quarterfold.balance" 378
abbrev u1_:Value:=.str "law_quarterfold_k67_whole_balance_of_boards" 483
abbrev u2_:Value:=.str "quarterfold.rows" 239
abbrev u3_:Value:=.str "quarterfold.tellings" 305
abbrev u4_:Value:=.str "quarterfold.deeds" 350
def kh(P:Params)(x:Str):Int:=PySem.PyData.keyHash P x
def oM(n q:Str)(st:Stmt)(m:Value)(c:Nat):Obj:=⟨.type "function",none,.func (fnOf n q (L2.qf7 st) (L2.qf0 st) (L2.qa5 st) .none .none .none m none (.ref c) .none),#[]⟩
def oF(n:Str)(st:Stmt)(m:Value)(c:Nat):Obj:=⟨.type "function",none,.func (fnOf n n (L2.qf7 st) (L2.qf0 st) (L2.qa5 st) .none .none .none m none (.ref c) .none),#[]⟩
def oT(n q:Str)(st:Stmt):Obj:=⟨.none,none,.func { fnOf n q (L2.qf7 st) (L2.qf0 st) (L2.qa5 st) .none .none .none .none none .none .none with globals:=0 },#[]⟩
def oC(n q:Str)(t1 t2 t3 l a r1 r2:Nat)(y z:Value)(r6 k t5:Nat):Obj:=⟨.type "code",none,.fields #[.str n t1,.str q t2,.str "/claim/cut.py" t3,.int l 0,.int a 0,.int 0 0,.int 0 0,.int 3 0,.ref r1,.bool true,.int 181 0,.ref r2,.none,y,z,.ref r6,.int k 0,.int l 0,.str "/claim/cut.py" t5],#[]⟩
abbrev e0_:PySem.Obj:=⟨.type "tuple",none,(.seq #[] 0),#[]⟩
abbrev e1_:PySem.Obj:=⟨.none,none,(.fields #[]),#[]⟩
abbrev e2_(a:Array PySem.Value):PySem.Obj:=⟨.type "tuple",none,(.seq a 0),#[]⟩
abbrev e3_(P:Params)(x:Str)(n:Tok)(v:Value):DictEntry:=⟨kh P x,.str x n,v⟩
def K0(P:Params):Frag:=
(nat_lit 2,⟨.none,none,(.dict #[] 0),#[]⟩) ::
(nat_lit 3,⟨.type "dict",none,(.dict #[e3_ P "__name__" 165 (.str "law_quarterfold_k67_whole_balance_of_boards" 483),e3_ P "__doc__" 166 .none,e3_ P "__package__" 167 .none,e3_ P "__loader__" 168 (.builtin "__main__.__loader__#opaque"),e3_ P "__spec__" 169 .none,e3_ P "__annotations__" 170 (.ref 6),e3_ P "__builtins__" 171 (.ref 4),e3_ P "__file__" 173 (.str "/claim/cut.py" 172),e3_ P "__cached__" 174 .none,e3_ P "FloorError" 206 (.ref 24),e3_ P "NoShape" 222 (.ref 37),e3_ P "NoWay" 238 (.ref 49),e3_ P "EMPTY" 242 (.int 0 241),e3_ P "FULL" 244 (.int 1 243),e3_ P "FIRST" 246 (.int 2 245),e3_ P "is_whole" 253 (.ref 58),e3_ P "is_plain" 260 (.ref 65),e3_ P "quarters_of" 268 (.ref 72),e3_ P "depths_of" 274 (.ref 77),e3_ P "end_rows" 284 (.ref 84),e3_ P "places_as_ended" 293 (.ref 91),e3_ P "GREATEST_SIZE" 297 (.int 12 296),e3_ P "is_size" 304 (.ref 98),e3_ P "is_number" 314 (.ref 105),e3_ P "is_row" 320 (.ref 110),e3_ P "are_rows" 326 (.ref 115),e3_ P "is_telling" 336 (.ref 122),e3_ P "is_shape" 342 (.ref 127),e3_ P "want_shape" 349 (.ref 134),e3_ P "exchanged" 358 (.ref 141),e3_ P "exchanged_rows" 364 (.ref 146),e3_ P "SIDES" 368 (.str "sides" 367),e3_ P "CORNERS" 370 (.str "corners" 369),e3_ P "want_way" 377 (.ref 153),e3_ P "corners_of" 385 (.ref 158),e3_ P "turned_about" 392 (.ref 165),e3_ P "Account" 470 (.ref 213),e3_ P "balance" 482 (.ref 224),e3_ P "_law_pot" 493 (.ref 231),e3_ P "_law_digit" 502 (.ref 238),e3_ P "_law_meets" 512 (.ref 245),e3_ P "_law_has" 522 (.ref 252),e3_ P "_law_number" 528 (.ref 257),e3_ P "_law_by_sides" 540 (.ref 264),e3_ P "_law_by_corners" 553 (.ref 271),e3_ P "_law_told" 561 (.ref 278),e3_ P "_law_times" 576 (.ref 285),e3_ P "_law_of_rows" 592 (.ref 292),e3_ P "_law_board" 598 (.ref 297),e3_ P "_law_less_a_quarter" 608 (.ref 304),e3_ P "law" 614 (.ref 309)] 51),#[]⟩) ::
(nat_lit 15,(e2_ #[.type "ValueError"])) ::
(nat_lit 22,e0_) ::
(nat_lit 23,⟨.type "dict",none,(.dict #[e3_ P "__module__" 196 (.str "quarterfold.errors" 187),e3_ P "__firstlineno__" 200 (.int 2 199),e3_ P "__static_attributes__" 201 (.ref 22),e3_ P "__weakref__" 203 (.ref 25),e3_ P "__doc__" 204 .none] 3),#[]⟩) ::
(nat_lit 24,⟨.type "type",none,(.cls ⟨"FloorError",[.type "ValueError"],[.ref 24,.type "ValueError",.type "Exception",.type "BaseException",.type "object"],23, "FloorError",true,[],[.ref 37,.ref 49],false,none,false⟩),#[some (.ref 15),none,some (.str "FloorError" 189),some (.str "FloorError" 197),some (.builtin "ValueError.__new__"),some (.bool true)]⟩) ::
(nat_lit 25,⟨.type "getset_descriptor",none,(.fields #[.str "__weakref__" 202,.ref 24,.builtin "ExceptionGroup.__weakref__",.none]),#[]⟩) ::
(nat_lit 28,(e2_ #[.ref 24])) ::
(nat_lit 35,e0_) ::
(nat_lit 36,⟨.type "dict",none,(.dict #[e3_ P "__module__" 214 (.str "quarterfold.errors" 187),e3_ P "__firstlineno__" 218 (.int 4 217),e3_ P "__static_attributes__" 219 (.ref 35),e3_ P "__doc__" 220 .none] 2),#[]⟩) ::
(nat_lit 37,⟨.type "type",none,(.cls ⟨"NoShape",[.ref 24],[.ref 37,.ref 24,.type "ValueError",.type "Exception",.type "BaseException",.type "object"],36, "NoShape",true,[],[],false,none,false⟩),#[some (.ref 28),none,some (.str "NoShape" 207),some (.str "NoShape" 215),some (.builtin "ValueError.__new__"),some (.bool true)]⟩) ::
(nat_lit 40,(e2_ #[.ref 24])) ::
(nat_lit 47,e0_) ::
(nat_lit 48,⟨.type "dict",none,(.dict #[e3_ P "__module__" 230 (.str "quarterfold.errors" 187),e3_ P "__firstlineno__" 234 (.int 6 233),e3_ P "__static_attributes__" 235 (.ref 47),e3_ P "__doc__" 236 .none] 2),#[]⟩) ::
(nat_lit 49,⟨.type "type",none,(.cls ⟨"NoWay",[.ref 24],[.ref 49,.ref 24,.type "ValueError",.type "Exception",.type "BaseException",.type "object"],48, "NoWay",true,[],[],false,none,false⟩),#[some (.ref 40),none,some (.str "NoWay" 223),some (.str "NoWay" 231),some (.builtin "ValueError.__new__"),some (.bool true)]⟩) ::
(nat_lit 52,e0_) ::
(nat_lit 54,(e2_ #[.str "thing" 250])) ::
(nat_lit 55,e0_) ::
(nat_lit 57,oC "is_whole" "is_whole" 247 248 249 12 1 52 53 (.ref 54) (.ref 55) 56 251 252) ::
(nat_lit 58,oF "is_whole" (Pr.top 8) u2_ 57) ::
(nat_lit 59,e0_) ::
(nat_lit 61,(e2_ #[.str "row" 257])) ::
(nat_lit 62,e0_) ::
(nat_lit 64,oC "is_plain" "is_plain" 254 255 256 14 1 59 60 (.ref 61) (.ref 62) 63 258 259) ::
(nat_lit 65,oF "is_plain" (Pr.top 9) u2_ 64) ::
(nat_lit 66,e0_) ::
(nat_lit 68,(e2_ #[.str "rows" 264,.str "number" 265])) ::
(nat_lit 69,e0_) ::
(nat_lit 71,oC "quarters_of" "quarters_of" 261 262 263 16 2 66 67 (.ref 68) (.ref 69) 70 266 267) ::
(nat_lit 72,oF "quarters_of" (Pr.top 10) u2_ 71) ::
(nat_lit 73,e0_) ::
(nat_lit 76,oC "depths_of" "depths_of" 269 270 271 20 1 73 74 .none .none 75 272 273) ::
(nat_lit 77,oF "depths_of" (Pr.top 11) u2_ 76) ::
(nat_lit 78,e0_) ::
(nat_lit 80,(e2_ #[.str "rows" 278,.str "number" 279,.str "ended" 280,.str "quarter" 281])) ::
(nat_lit 81,e0_) ::
(nat_lit 83,oC "end_rows" "end_rows" 275 276 277 25 3 78 79 (.ref 80) (.ref 81) 82 282 283) ::
(nat_lit 84,oF "end_rows" (Pr.top 12) u2_ 83) ::
(nat_lit 85,e0_) ::
(nat_lit 87,(e2_ #[.str "rows" 288,.str "top" 289,.str "ended" 290])) ::
(nat_lit 88,e0_) ::
(nat_lit 90,oC "places_as_ended" "places_as_ended" 285 286 287 31 2 85 86 (.ref 87) (.ref 88) 89 291 292) ::
(nat_lit 91,oF "places_as_ended" (Pr.top 13) u2_ 90) ::
(nat_lit 92,e0_) ::
(nat_lit 94,(e2_ #[.str "thing" 301])) ::
(nat_lit 95,e0_) ::
(nat_lit 97,oC "is_size" "is_size" 298 299 300 37 1 92 93 (.ref 94) (.ref 95) 96 302 303) ::
(nat_lit 98,oF "is_size" (Pr.top 16) (.str "quarterfold.floors" 294) 97) ::
(nat_lit 99,e0_) ::
(nat_lit 101,(e2_ #[.str "thing" 310,.str "many" 311])) ::
(nat_lit 102,e0_) ::
(nat_lit 104,oC "is_number" "is_number" 307 308 309 40 2 99 100 (.ref 101) (.ref 102) 103 312 313) ::
(nat_lit 105,oF "is_number" (Pr.top 18) u3_ 104) ::
(nat_lit 106,e0_) ::
(nat_lit 109,oC "is_row" "is_row" 315 316 317 42 2 106 107 .none .none 108 318 319) ::
(nat_lit 110,oF "is_row" (Pr.top 19) u3_ 109) ::
(nat_lit 111,e0_) ::
(nat_lit 114,oC "are_rows" "are_rows" 321 322 323 46 1 111 112 .none .none 113 324 325) ::
(nat_lit 115,oF "are_rows" (Pr.top 20) u3_ 114) ::
(nat_lit 116,e0_) ::
(nat_lit 118,(e2_ #[.str "thing" 330,.str "n" 331,.str "top" 332,.str "rows" 333])) ::
(nat_lit 119,e0_) ::
(nat_lit 121,oC "is_telling" "is_telling" 327 328 329 48 1 116 117 (.ref 118) (.ref 119) 120 334 335) ::
(nat_lit 122,oF "is_telling" (Pr.top 21) u3_ 121) ::
(nat_lit 123,e0_) ::
(nat_lit 126,oC "is_shape" "is_shape" 337 338 339 55 1 123 124 .none .none 125 340 341) ::
(nat_lit 127,oF "is_shape" (Pr.top 22) u3_ 126) ::
(nat_lit 128,e0_) ::
(nat_lit 130,(e2_ #[.str "shape" 346])) ::
(nat_lit 131,e0_) ::
(nat_lit 133,oC "want_shape" "want_shape" 343 344 345 62 1 128 129 (.ref 130) (.ref 131) 132 347 348) ::
(nat_lit 134,oF "want_shape" (Pr.top 23) u3_ 133) ::
(nat_lit 135,e0_) ::
(nat_lit 137,(e2_ #[.str "number" 355])) ::
(nat_lit 138,e0_) ::
(nat_lit 140,oC "exchanged" "exchanged" 352 353 354 66 1 135 136 (.ref 137) (.ref 138) 139 356 357) ::
(nat_lit 141,oF "exchanged" (Pr.top 25) u4_ 140) ::
(nat_lit 142,e0_) ::
(nat_lit 145,oC "exchanged_rows" "exchanged_rows" 359 360 361 70 1 142 143 .none .none 144 362 363) ::
(nat_lit 146,oF "exchanged_rows" (Pr.top 26) u4_ 145) ::
(nat_lit 147,e0_) ::
(nat_lit 149,(e2_ #[.str "by" 374])) ::
(nat_lit 150,e0_) ::
(nat_lit 152,oC "want_way" "want_way" 371 372 373 75 1 147 148 (.ref 149) (.ref 150) 151 375 376) ::
(nat_lit 153,oF "want_way" (Pr.top 30) (.str "quarterfold.touching" 365) 152) ::
(nat_lit 154,e0_) ::
(nat_lit 157,oC "corners_of" "corners_of" 380 381 382 79 1 154 155 .none .none 156 383 384) ::
(nat_lit 158,oF "corners_of" (Pr.top 32) u0_ 157) ::
(nat_lit 159,e0_) ::
(nat_lit 161,(e2_ #[.str "four" 389])) ::
(nat_lit 162,e0_) ::
(nat_lit 164,oC "turned_about" "turned_about" 386 387 388 84 1 159 160 (.ref 161) (.ref 162) 163 390 391) ::
(nat_lit 165,oF "turned_about" (Pr.top 33) u0_ 164) ::
(nat_lit 173,e0_) ::
(nat_lit 175,(e2_ #[.str "self" 408,.str "rows" 409])) ::
(nat_lit 176,e0_) ::
(nat_lit 178,oC "__init__" "Account.__init__" 405 406 407 88 2 173 174 (.ref 175) (.ref 176) 177 410 411) ::
(nat_lit 179,oM "__init__" "Account.__init__" (L2.qc6 (Pr.top 34) 0) u0_ 178) ::
(nat_lit 180,e0_) ::
(nat_lit 183,oC "in_the_middle" "Account.in_the_middle" 413 414 415 93 2 180 181 .none .none 182 416 417) ::
(nat_lit 184,oM "in_the_middle" "Account.in_the_middle" (L2.qc6 (Pr.top 34) 1) u0_ 183) ::
(nat_lit 185,e0_) ::
(nat_lit 187,(e2_ #[.str "self" 422,.str "one" 423,.str "other" 424,.str "is_upright" 425,.str "key" 426,.str "mine" 427,.str "theirs" 428,.str "four" 429])) ::
(nat_lit 188,e0_) ::
(nat_lit 190,oC "across" "Account.across" 419 420 421 96 4 185 186 (.ref 187) (.ref 188) 189 430 431) ::
(nat_lit 191,oM "across" "Account.across" (L2.qc6 (Pr.top 34) 2) u0_ 190) ::
(nat_lit 192,e0_) ::
(nat_lit 194,(e2_ #[.str "self" 436,.str "four" 437,.str "is_upright" 438,.str "first" 439,.str "second" 440,.str "third" 441,.str "fourth" 442])) ::
(nat_lit 195,e0_) ::
(nat_lit 197,oC "over_both" "Account.over_both" 433 434 435 112 3 192 193 (.ref 194) (.ref 195) 196 443 444) ::
(nat_lit 198,oM "over_both" "Account.over_both" (L2.qc6 (Pr.top 34) 3) u0_ 197) ::
(nat_lit 199,e0_) ::
(nat_lit 201,(e2_ #[.str "self" 449,.str "four" 450])) ::
(nat_lit 202,e0_) ::
(nat_lit 204,oC "together" "Account.together" 446 447 448 116 2 199 200 (.ref 201) (.ref 202) 203 451 452) ::
(nat_lit 205,oM "together" "Account.together" (L2.qc6 (Pr.top 34) 4) u0_ 204) ::
(nat_lit 206,e0_) ::
(nat_lit 209,oC "of_number" "Account.of_number" 454 455 456 119 2 206 207 .none .none 208 457 458) ::
(nat_lit 210,oM "of_number" "Account.of_number" (L2.qc6 (Pr.top 34) 5) u0_ 209) ::
(nat_lit 211,(e2_ #[.str "corners" 460,.str "known" 461,.str "rows" 462])) ::
(nat_lit 212,⟨.type "dict",none,(.dict #[e3_ P "__module__" 400 (.str "quarterfold.balance" 378),e3_ P "__firstlineno__" 404 (.int 86 403),e3_ P "__init__" 412 (.ref 179),e3_ P "in_the_middle" 418 (.ref 184),e3_ P "across" 432 (.ref 191),e3_ P "over_both" 445 (.ref 198),e3_ P "together" 453 (.ref 205),e3_ P "of_number" 459 (.ref 210),e3_ P "__static_attributes__" 463 (.ref 211),e3_ P "__dict__" 465 (.ref 214),e3_ P "__weakref__" 467 (.ref 215),e3_ P "__doc__" 468 .none] 4),#[]⟩) ::
(nat_lit 213,⟨.type "type",none,(.cls ⟨"Account",[.type "object"],[.ref 213,.type "object"],212, "Account",true,[],[],false,none,false⟩),#[none,none,some (.str "Account" 393),some (.str "Account" 401),some (.builtin "object.__new__"),some (.bool true)]⟩) ::
(nat_lit 214,⟨.type "getset_descriptor",none,(.fields #[.str "__dict__" 464,.ref 213,.builtin "function.__dict__",.builtin "function.__dict__#set"]),#[]⟩) ::
(nat_lit 215,⟨.type "getset_descriptor",none,(.fields #[.str "__weakref__" 466,.ref 213,.builtin "ExceptionGroup.__weakref__",.none]),#[]⟩) ::
(nat_lit 218,e0_) ::
(nat_lit 220,(e2_ #[.str "shape" 474,.str "by" 475,.str "top" 476,.str "rows" 477,.str "amid" 478,.str "around" 479])) ::
(nat_lit 221,e0_) ::
(nat_lit 223,oC "balance" "balance" 471 472 473 124 2 218 219 (.ref 220) (.ref 221) 222 480 481) ::
(nat_lit 224,oF "balance" (Pr.top 35) u0_ 223) ::
(nat_lit 225,e0_) ::
(nat_lit 227,(e2_ #[.str "_law_script" 488,.str "_law_k" 489,.str "_law_cell" 490])) ::
(nat_lit 228,e0_) ::
(nat_lit 230,oC "_law_pot" "_law_pot" 485 486 487 134 2 225 226 (.ref 227) (.ref 228) 229 491 492) ::
(nat_lit 231,oF "_law_pot" (Pr.top 37) u1_ 230) ::
(nat_lit 232,e0_) ::
(nat_lit 234,(e2_ #[.str "_law_pot_here" 497,.str "_law_many" 498,.str "_law_digit_here" 499])) ::
(nat_lit 235,e0_) ::
(nat_lit 237,oC "_law_digit" "_law_digit" 494 495 496 139 2 232 233 (.ref 234) (.ref 235) 236 500 501) ::
(nat_lit 238,oF "_law_digit" (Pr.top 38) u1_ 237) ::
(nat_lit 239,e0_) ::
(nat_lit 241,(e2_ #[.str "_law_box" 506,.str "_law_row" 507,.str "_law_column" 508,.str "_law_side" 509])) ::
(nat_lit 242,e0_) ::
(nat_lit 244,oC "_law_meets" "_law_meets" 503 504 505 146 4 239 240 (.ref 241) (.ref 242) 243 510 511) ::
(nat_lit 245,oF "_law_meets" (Pr.top 39) u1_ 244) ::
(nat_lit 246,e0_) ::
(nat_lit 248,(e2_ #[.str "_law_box" 516,.str "_law_row" 517,.str "_law_column" 518,.str "_law_side" 519])) ::
(nat_lit 249,e0_) ::
(nat_lit 251,oC "_law_has" "_law_has" 513 514 515 150 4 246 247 (.ref 248) (.ref 249) 250 520 521) ::
(nat_lit 252,oF "_law_has" (Pr.top 40) u1_ 251) ::
(nat_lit 253,e0_) ::
(nat_lit 256,oC "_law_number" "_law_number" 523 524 525 154 5 253 254 .none .none 255 526 527) ::
(nat_lit 257,oF "_law_number" (Pr.top 41) u1_ 256) ::
(nat_lit 258,e0_) ::
(nat_lit 260,(e2_ #[.str "_law_there" 532,.str "_law_found" 533,.str "_law_r" 534,.str "_law_c" 535,.str "_law_one" 536,.str "_law_other" 537])) ::
(nat_lit 261,e0_) ::
(nat_lit 263,oC "_law_by_sides" "_law_by_sides" 529 530 531 165 1 258 259 (.ref 260) (.ref 261) 262 538 539) ::
(nat_lit 264,oF "_law_by_sides" (Pr.top 42) u1_ 263) ::
(nat_lit 265,e0_) ::
(nat_lit 267,(e2_ #[.str "_law_there" 544,.str "_law_corners" 545,.str "_law_sides" 546,.str "_law_r" 547,.str "_law_c" 548,.str "_law_k" 549,.str "_law_side" 550])) ::
(nat_lit 268,e0_) ::
(nat_lit 270,oC "_law_by_corners" "_law_by_corners" 541 542 543 172 1 265 266 (.ref 267) (.ref 268) 269 551 552) ::
(nat_lit 271,oF "_law_by_corners" (Pr.top 43) u1_ 270) ::
(nat_lit 272,e0_) ::
(nat_lit 274,(e2_ #[.str "_law_by" 557,.str "_law_there" 558])) ::
(nat_lit 275,e0_) ::
(nat_lit 277,oC "_law_told" "_law_told" 554 555 556 181 2 272 273 (.ref 274) (.ref 275) 276 559 560) ::
(nat_lit 278,oF "_law_told" (Pr.top 44) u1_ 277) ::
(nat_lit 279,e0_) ::
(nat_lit 281,(e2_ #[.str "_law_n" 565,.str "_law_cells" 566,.str "_law_down" 567,.str "_law_right" 568,.str "_law_side" 569,.str "_law_found" 570,.str "_law_k" 571,.str "_law_r" 572,.str "_law_c" 573])) ::
(nat_lit 282,e0_) ::
(nat_lit 284,oC "_law_times" "_law_times" 562 563 564 185 4 279 280 (.ref 281) (.ref 282) 283 574 575) ::
(nat_lit 285,oF "_law_times" (Pr.top 45) u1_ 284) ::
(nat_lit 286,e0_) ::
(nat_lit 288,(e2_ #[.str "_law_by" 580,.str "_law_n" 581,.str "_law_cells" 582,.str "_law_down" 583,.str "_law_right" 584,.str "_law_one" 585,.str "_law_level" 586,.str "_law_upright" 587,.str "_law_point" 588,.str "_law_found" 589])) ::
(nat_lit 289,e0_) ::
(nat_lit 291,oC "_law_of_rows" "_law_of_rows" 577 578 579 192 5 286 287 (.ref 288) (.ref 289) 290 590 591) ::
(nat_lit 292,oF "_law_of_rows" (Pr.top 46) u1_ 291) ::
(nat_lit 293,e0_) ::
(nat_lit 296,oC "_law_board" "_law_board" 593 594 595 200 3 293 294 .none .none 295 596 597) ::
(nat_lit 297,oF "_law_board" (Pr.top 47) u1_ 296) ::
(nat_lit 298,e0_) ::
(nat_lit 300,(e2_ #[.str "_law_board_here" 602,.str "_law_m" 603,.str "_law_number_here" 604,.str "_law_rows" 605])) ::
(nat_lit 301,e0_) ::
(nat_lit 303,oC "_law_less_a_quarter" "_law_less_a_quarter" 599 600 601 208 1 298 299 (.ref 300) (.ref 301) 302 606 607) ::
(nat_lit 304,oF "_law_less_a_quarter" (Pr.top 48) u1_ 303) ::
(nat_lit 305,e0_) ::
(nat_lit 308,oC "law" "law" 609 610 611 213 1 305 306 .none .none 307 612 613) ::
(nat_lit 309,oF "law" (Pr.top 49) u1_ 308)::[]
def as0:List Addr:=[2,3,15,22,23,24,25,28,35,36,37,40,47,48,49,52,54,55,57,58,59,61,62,64,65,66,68,69,71,72,73,76,77,78,80,81,83,84,85,87,88,90,91,92,94,95,97,98,99,101,102,104,105,106,109,110,111,114,115,116,118,119,121,122,123,126,127,128,130,131,133,134,135,137,138,140,141,142,145,146,147,149,150,152,153,154,157,158,159,161,162,164,165,173,175,176,178,179,180,183,184,185,187,188,190,191,192,194,195,197,198,199,201,202,204,205,206,209,210,211,212,213,214,215,218,220,221,223,224,225,227,228,230,231,232,234,235,237,238,239,241,242,244,245,246,248,249,251,252,253,256,257,258,260,261,263,264,265,267,268,270,271,272,274,275,277,278,279,281,282,284,285,286,288,289,291,292,293,296,297,298,300,301,303,304,305,308,309]
def keep0:List Nat:=[1,2,3,5,6,7,8,9,10,11,12,13,15,16,18,19,20,21,22,23,25,26,28,29,30,32,33,34,35,37,38,39,40,41,42,43,44,45,46,47,48,49]
def N0:Nat:=4292
noncomputable def bx(P:Params)(a t l:Nat)(x:Str):List Obj:=[(e2_ #[.ref 24]),
⟨.type "builtin_function_or_method",none,(.fields #[.builtin "type.__prepare__",.type "type"]),#[]⟩,
⟨.type "dict",none,(.dict #[⟨kh P "__module__",.str "__module__" (t+7),.str "quarterfold.errors" 187⟩,⟨kh P "__qualname__",.str "__qualname__" (t+9),.str x (t+8)⟩,⟨kh P "__firstlineno__",.str "__firstlineno__" (t+11),.int l (t+10)⟩,⟨kh P "__static_attributes__",.str "__static_attributes__" (t+12),.ref (a+7)⟩] 4),#[]⟩,
e0_,
e1_,
⟨.type "code",none,(.fields #[.str x (t+2),.str x (t+3),.str "/claim/cut.py" (t+4),.int l 0,.int 0 0,.int 0 0,.int 0 0,.int 0 0,.ref (a+3),.bool false,.int 181 0,.ref (a+4),.none,.none,.none,.none,.int (t+5) 0,.int l 0,.str "/claim/cut.py" (t+6)]),#[]⟩,
⟨.type "frame",none,.plain,#[some (.ref (a+5)),some (.ref 3),some (.ref (a+2)),none,some (.str "quarterfold.errors" 187),none,some (.ref 0)]⟩,
e0_,
⟨.type "dict",none,(.dict #[⟨kh P "__module__",.str "__module__" (t+7),.str "quarterfold.errors" 187⟩,⟨kh P "__firstlineno__",.str "__firstlineno__" (t+11),.int l (t+10)⟩,⟨kh P "__static_attributes__",.str "__static_attributes__" (t+12),.ref (a+7)⟩,⟨kh P "__doc__",.str "__doc__" (t+13),.none⟩] 2),#[]⟩,
⟨.type "type",none,(.cls ⟨x,[.ref 24],[.ref (a+9),.ref 24,.type "ValueError",.type "Exception",.type "BaseException",.type "object"],(a+8),x,true,[],[],false,none,false⟩),#[some (.ref a),none,some (.str x t),some (.str x (t+8)),some (.builtin "ValueError.__new__"),some (.bool true)]⟩,
⟨.type "super",none,(.fields #[.ref (a+9),.ref (a+9),.ref (a+9)]),#[]⟩,
⟨.type "builtin_function_or_method",none,(.fields #[.builtin "object.__init_subclass__",.ref (a+9)]),#[]⟩]
noncomputable def ob(P:Params):List Obj:=[boot_o_0 P,boot_o_1 P,boot_o_2 P,⟨.type "dict",none,(.dict #[e3_ P "__name__" 165 (.str "quarterfold.balance" 378),e3_ P "__doc__" 166 .none,e3_ P "__package__" 167 .none,e3_ P "__loader__" 168 (.builtin "__main__.__loader__#opaque"),e3_ P "__spec__" 169 .none,e3_ P "__annotations__" 170 (.ref 6),e3_ P "__builtins__" 171 (.ref 4),e3_ P "__file__" 173 (.str "/claim/cut.py" 172),e3_ P "__cached__" 174 .none,e3_ P "FloorError" 206 (.ref 24),e3_ P "NoShape" 222 (.ref 37),e3_ P "NoWay" 238 (.ref 49),e3_ P "EMPTY" 242 (.int 0 241),e3_ P "FULL" 244 (.int 1 243),e3_ P "FIRST" 246 (.int 2 245),e3_ P "is_whole" 253 (.ref 58),e3_ P "is_plain" 260 (.ref 65),e3_ P "quarters_of" 268 (.ref 72),e3_ P "depths_of" 274 (.ref 77),e3_ P "end_rows" 284 (.ref 84),e3_ P "places_as_ended" 293 (.ref 91),e3_ P "GREATEST_SIZE" 297 (.int 12 296),e3_ P "is_size" 304 (.ref 98),e3_ P "is_number" 314 (.ref 105),e3_ P "is_row" 320 (.ref 110),e3_ P "are_rows" 326 (.ref 115),e3_ P "is_telling" 336 (.ref 122),e3_ P "is_shape" 342 (.ref 127),e3_ P "want_shape" 349 (.ref 134),e3_ P "exchanged" 358 (.ref 141),e3_ P "exchanged_rows" 364 (.ref 146),e3_ P "SIDES" 368 (.str "sides" 367),e3_ P "CORNERS" 370 (.str "corners" 369),e3_ P "want_way" 377 (.ref 153),e3_ P "corners_of" 385 (.ref 158),e3_ P "turned_about" 392 (.ref 165),e3_ P "Account" 470 (.ref 213)] 37),#[]⟩,boot_o_4 P,boot_o_5 P,boot_o_6 P,boot_o_7 P,boot_o_8 P,boot_o_9 P,boot_o_10 P,e0_,⟨.none,none,(.fields #[.int 2 0,.int 0 0,.ref 20,.int 4 0,.int 0 0,.ref 33,.int 6 0,.int 0 0,.ref 45,.int 12 0,.int 0 0,.ref 57,.int 14 0,.int 0 0,.ref 64,.int 16 0,.int 0 0,.ref 71,.int 20 0,.int 0 0,.ref 76,.int 25 0,.int 0 0,.ref 83,.int 31 0,.int 0 0,.ref 90,.int 37 0,.int 0 0,.ref 97,.int 40 0,.int 0 0,.ref 104,.int 42 0,.int 0 0,.ref 109,.int 46 0,.int 0 0,.ref 114,.int 48 0,.int 0 0,.ref 121,.int 55 0,.int 0 0,.ref 126,.int 62 0,.int 0 0,.ref 133,.int 66 0,.int 0 0,.ref 140,.int 70 0,.int 0 0,.ref 145,.int 75 0,.int 0 0,.ref 152,.int 79 0,.int 0 0,.ref 157,.int 84 0,.int 0 0,.ref 164,.int 86 0,.int 0 0,.ref 171]),#[]⟩,⟨.type "code",none,(.fields #[.str "<module>" 182,.str "<module>" 183,.str "/claim/cut.py" 184,.int 1 0,.int 0 0,.int 0 0,.int 0 0,.int 0 0,.ref 11,.bool false,.int 181 0,.ref 12,.none,.none,.none,.none,.int 185 0,.int 1 0,.str "/claim/cut.py" 186]),#[]⟩,⟨.type "frame",none,.plain,#[some (.ref 13),some (.ref 3),some (.ref 3),none,some (.str "__main__" 164),none,some (.ref 0)]⟩,(e2_ #[.type "ValueError"]),⟨.type "builtin_function_or_method",none,(.fields #[.builtin "type.__prepare__",.type "type"]),#[]⟩,⟨.type "dict",none,(.dict #[e3_ P "__module__" 196 (.str "quarterfold.errors" 187),e3_ P "__qualname__" 198 (.str "FloorError" 197),e3_ P "__firstlineno__" 200 (.int 2 199),e3_ P "__static_attributes__" 201 (.ref 22)] 4),#[]⟩,e0_,e1_,⟨.type "code",none,(.fields #[.str "FloorError" 191,.str "FloorError" 192,.str "/claim/cut.py" 193,.int 2 0,.int 0 0,.int 0 0,.int 0 0,.int 0 0,.ref 18,.bool false,.int 181 0,.ref 19,.none,.none,.none,.none,.int 194 0,.int 2 0,.str "/claim/cut.py" 195]),#[]⟩,⟨.type "frame",none,.plain,#[some (.ref 20),some (.ref 3),some (.ref 17),none,some (.str "quarterfold.errors" 187),none,some (.ref 0)]⟩,e0_,⟨.type "dict",none,(.dict #[e3_ P "__module__" 196 (.str "quarterfold.errors" 187),e3_ P "__firstlineno__" 200 (.int 2 199),e3_ P "__static_attributes__" 201 (.ref 22),e3_ P "__weakref__" 203 (.ref 25),e3_ P "__doc__" 204 .none] 3),#[]⟩,⟨.type "type",none,(.cls ⟨"FloorError",[.type "ValueError"],[.ref 24,.type "ValueError",.type "Exception",.type "BaseException",.type "object"],23, "FloorError",true,[],[.ref 37,.ref 49],false,none,false⟩),#[some (.ref 15),none,some (.str "FloorError" 189),some (.str "FloorError" 197),some (.builtin "ValueError.__new__"),some (.bool true)]⟩,⟨.type "getset_descriptor",none,(.fields #[.str "__weakref__" 202,.ref 24,.builtin "ExceptionGroup.__weakref__",.none]),#[]⟩,⟨.type "super",none,(.fields #[.ref 24,.ref 24,.ref 24]),#[]⟩,⟨.type "builtin_function_or_method",none,(.fields #[.builtin "object.__init_subclass__",.ref 24]),#[]⟩]++(bx P 28 207 4 "NoShape" ++ (bx P 40 223 6 "NoWay" ++ ([e0_,e1_,(e2_ #[.str "thing" 250]),e0_,oT "is_whole" "is_whole" (Pr.top 8),oC "is_whole" "is_whole" 247 248 249 12 1 52 53 (.ref 54) (.ref 55) 56 251 252,oF "is_whole" (Pr.top 8) u2_ 57,e0_,e1_,(e2_ #[.str "row" 257]),e0_,oT "is_plain" "is_plain" (Pr.top 9),oC "is_plain" "is_plain" 254 255 256 14 1 59 60 (.ref 61) (.ref 62) 63 258 259,oF "is_plain" (Pr.top 9) u2_ 64,e0_,e1_,(e2_ #[.str "rows" 264,.str "number" 265]),e0_,oT "quarters_of" "quarters_of" (Pr.top 10),oC "quarters_of" "quarters_of" 261 262 263 16 2 66 67 (.ref 68) (.ref 69) 70 266 267,oF "quarters_of" (Pr.top 10) u2_ 71,e0_,e1_,oT "depths_of" "depths_of" (Pr.top 11),oC "depths_of" "depths_of" 269 270 271 20 1 73 74 .none .none 75 272 273,oF "depths_of" (Pr.top 11) u2_ 76,e0_,e1_,(e2_ #[.str "rows" 278,.str "number" 279,.str "ended" 280,.str "quarter" 281]),e0_,oT "end_rows" "end_rows" (Pr.top 12),oC "end_rows" "end_rows" 275 276 277 25 3 78 79 (.ref 80) (.ref 81) 82 282 283,oF "end_rows" (Pr.top 12) u2_ 83,e0_,e1_,(e2_ #[.str "rows" 288,.str "top" 289,.str "ended" 290]),e0_,oT "places_as_ended" "places_as_ended" (Pr.top 13),oC "places_as_ended" "places_as_ended" 285 286 287 31 2 85 86 (.ref 87) (.ref 88) 89 291 292,oF "places_as_ended" (Pr.top 13) u2_ 90,e0_,e1_,(e2_ #[.str "thing" 301]),e0_,oT "is_size" "is_size" (Pr.top 16),oC "is_size" "is_size" 298 299 300 37 1 92 93 (.ref 94) (.ref 95) 96 302 303,oF "is_size" (Pr.top 16) (.str "quarterfold.floors" 294) 97,e0_,e1_,(e2_ #[.str "thing" 310,.str "many" 311]),e0_,oT "is_number" "is_number" (Pr.top 18),oC "is_number" "is_number" 307 308 309 40 2 99 100 (.ref 101) (.ref 102) 103 312 313,oF "is_number" (Pr.top 18) u3_ 104,e0_,e1_,oT "is_row" "is_row" (Pr.top 19),oC "is_row" "is_row" 315 316 317 42 2 106 107 .none .none 108 318 319,oF "is_row" (Pr.top 19) u3_ 109,e0_,e1_,oT "are_rows" "are_rows" (Pr.top 20),oC "are_rows" "are_rows" 321 322 323 46 1 111 112 .none .none 113 324 325,oF "are_rows" (Pr.top 20) u3_ 114,e0_,e1_,(e2_ #[.str "thing" 330,.str "n" 331,.str "top" 332,.str "rows" 333]),e0_,oT "is_telling" "is_telling" (Pr.top 21),oC "is_telling" "is_telling" 327 328 329 48 1 116 117 (.ref 118) (.ref 119) 120 334 335,oF "is_telling" (Pr.top 21) u3_ 121,e0_,e1_,oT "is_shape" "is_shape" (Pr.top 22),oC "is_shape" "is_shape" 337 338 339 55 1 123 124 .none .none 125 340 341,oF "is_shape" (Pr.top 22) u3_ 126,e0_,e1_,(e2_ #[.str "shape" 346]),e0_,oT "want_shape" "want_shape" (Pr.top 23),oC "want_shape" "want_shape" 343 344 345 62 1 128 129 (.ref 130) (.ref 131) 132 347 348,oF "want_shape" (Pr.top 23) u3_ 133,e0_,e1_,(e2_ #[.str "number" 355]),e0_,oT "exchanged" "exchanged" (Pr.top 25),oC "exchanged" "exchanged" 352 353 354 66 1 135 136 (.ref 137) (.ref 138) 139 356 357,oF "exchanged" (Pr.top 25) u4_ 140,e0_,e1_,oT "exchanged_rows" "exchanged_rows" (Pr.top 26),oC "exchanged_rows" "exchanged_rows" 359 360 361 70 1 142 143 .none .none 144 362 363,oF "exchanged_rows" (Pr.top 26) u4_ 145,e0_,e1_,(e2_ #[.str "by" 374]),e0_,oT "want_way" "want_way" (Pr.top 30),oC "want_way" "want_way" 371 372 373 75 1 147 148 (.ref 149) (.ref 150) 151 375 376,oF "want_way" (Pr.top 30) (.str "quarterfold.touching" 365) 152,e0_,e1_,oT "corners_of" "corners_of" (Pr.top 32),oC "corners_of" "corners_of" 380 381 382 79 1 154 155 .none .none 156 383 384,oF "corners_of" (Pr.top 32) u0_ 157,e0_,e1_,(e2_ #[.str "four" 389]),e0_,oT "turned_about" "turned_about" (Pr.top 33),oC "turned_about" "turned_about" 386 387 388 84 1 159 160 (.ref 161) (.ref 162) 163 390 391,oF "turned_about" (Pr.top 33) u0_ 164,e0_,⟨.type "builtin_function_or_method",none,(.fields #[.builtin "type.__prepare__",.type "type"]),#[]⟩,⟨.type "dict",none,(.dict #[e3_ P "__module__" 400 (.str "quarterfold.balance" 378),e3_ P "__qualname__" 402 (.str "Account" 401),e3_ P "__firstlineno__" 404 (.int 86 403),e3_ P "__init__" 412 (.ref 179),e3_ P "in_the_middle" 418 (.ref 184),e3_ P "across" 432 (.ref 191),e3_ P "over_both" 445 (.ref 198),e3_ P "together" 453 (.ref 205),e3_ P "of_number" 459 (.ref 210),e3_ P "__static_attributes__" 463 (.ref 211)] 10),#[]⟩,e0_,⟨.none,none,(.fields #[.int 88 0,.int 4 0,.ref 178,.int 93 0,.int 4 0,.ref 183,.int 96 0,.int 4 0,.ref 190,.int 112 0,.int 4 0,.ref 197,.int 116 0,.int 4 0,.ref 204,.int 119 0,.int 4 0,.ref 209]),#[]⟩,⟨.type "code",none,(.fields #[.str "Account" 395,.str "Account" 396,.str "/claim/cut.py" 397,.int 86 0,.int 0 0,.int 0 0,.int 0 0,.int 0 0,.ref 169,.bool false,.int 181 0,.ref 170,.none,.none,.none,.none,.int 398 0,.int 86 0,.str "/claim/cut.py" 399]),#[]⟩,⟨.type "frame",none,.plain,#[some (.ref 171),some (.ref 3),some (.ref 168),none,some u0_,none,some (.ref 0)]⟩,e0_,e1_,(e2_ #[.str "self" 408,.str "rows" 409]),e0_,oT "__init__" "Account.__init__" (L2.qc6 (Pr.top 34) 0),oC "__init__" "Account.__init__" 405 406 407 88 2 173 174 (.ref 175) (.ref 176) 177 410 411,oM "__init__" "Account.__init__" (L2.qc6 (Pr.top 34) 0) u0_ 178,e0_,e1_,oT "in_the_middle" "Account.in_the_middle" (L2.qc6 (Pr.top 34) 1),oC "in_the_middle" "Account.in_the_middle" 413 414 415 93 2 180 181 .none .none 182 416 417,oM "in_the_middle" "Account.in_the_middle" (L2.qc6 (Pr.top 34) 1) u0_ 183,e0_,e1_,(e2_ #[.str "self" 422,.str "one" 423,.str "other" 424,.str "is_upright" 425,.str "key" 426,.str "mine" 427,.str "theirs" 428,.str "four" 429]),e0_,oT "across" "Account.across" (L2.qc6 (Pr.top 34) 2),oC "across" "Account.across" 419 420 421 96 4 185 186 (.ref 187) (.ref 188) 189 430 431,oM "across" "Account.across" (L2.qc6 (Pr.top 34) 2) u0_ 190,e0_,e1_,(e2_ #[.str "self" 436,.str "four" 437,.str "is_upright" 438,.str "first" 439,.str "second" 440,.str "third" 441,.str "fourth" 442]),e0_,oT "over_both" "Account.over_both" (L2.qc6 (Pr.top 34) 3),oC "over_both" "Account.over_both" 433 434 435 112 3 192 193 (.ref 194) (.ref 195) 196 443 444,oM "over_both" "Account.over_both" (L2.qc6 (Pr.top 34) 3) u0_ 197,e0_,e1_,(e2_ #[.str "self" 449,.str "four" 450]),e0_,oT "together" "Account.together" (L2.qc6 (Pr.top 34) 4),oC "together" "Account.together" 446 447 448 116 2 199 200 (.ref 201) (.ref 202) 203 451 452,oM "together" "Account.together" (L2.qc6 (Pr.top 34) 4) u0_ 204,e0_,e1_,oT "of_number" "Account.of_number" (L2.qc6 (Pr.top 34) 5),oC "of_number" "Account.of_number" 454 455 456 119 2 206 207 .none .none 208 457 458,oM "of_number" "Account.of_number" (L2.qc6 (Pr.top 34) 5) u0_ 209,(e2_ #[.str "corners" 460,.str "known" 461,.str "rows" 462]),⟨.type "dict",none,(.dict #[e3_ P "__module__" 400 (.str "quarterfold.balance" 378),e3_ P "__firstlineno__" 404 (.int 86 403),e3_ P "__init__" 412 (.ref 179),e3_ P "in_the_middle" 418 (.ref 184),e3_ P "across" 432 (.ref 191),e3_ P "over_both" 445 (.ref 198),e3_ P "together" 453 (.ref 205),e3_ P "of_number" 459 (.ref 210),e3_ P "__static_attributes__" 463 (.ref 211),e3_ P "__dict__" 465 (.ref 214),e3_ P "__weakref__" 467 (.ref 215),e3_ P "__doc__" 468 .none] 4),#[]⟩,⟨.type "type",none,(.cls ⟨"Account",[.type "object"],[.ref 213,.type "object"],212, "Account",true,[],[],false,none,false⟩),#[none,none,some (.str "Account" 393),some (.str "Account" 401),some (.builtin "object.__new__"),some (.bool true)]⟩,⟨.type "getset_descriptor",none,(.fields #[.str "__dict__" 464,.ref 213,.builtin "function.__dict__",.builtin "function.__dict__#set"]),#[]⟩,⟨.type "getset_descriptor",none,(.fields #[.str "__weakref__" 466,.ref 213,.builtin "ExceptionGroup.__weakref__",.none]),#[]⟩,⟨.type "super",none,(.fields #[.ref 213,.ref 213,.ref 213]),#[]⟩,⟨.type "builtin_function_or_method",none,(.fields #[.builtin "object.__init_subclass__",.ref 213]),#[]⟩])))
noncomputable def hA(P:Params):Heap:=⟨⟨((((ob P).take 15).set 3 (boot_o_3 P)).set 12 (e1_))⟩,(boot_heap P).life⟩
noncomputable def h1(P:Params):Heap:=⟨⟨(ob P)⟩,(boot_heap P).life⟩
noncomputable def bd:List Stmt:=behindTheImports pw
noncomputable def ev:Env:={ scope:=pw.main.scope,locals:=mainNs,globals:=mainNs,cells:=[],code:=.ref 13,frame:=some 14 }
noncomputable def cE:Code:=.body bd ev
noncomputable abbrev sh (h:Params->Heap) (k:Nat) (w:World) (os:OsState):Shared:=⟨h w.params,Array.mk [],boot_drawn,k,os⟩
noncomputable abbrev fr:List Frame:=[topFrame ⟨0,0,0,0⟩]
theorem pre0(w:World)(os:OsState):topGo treeTable pw w 11 (some (.ref 6)) 12 (sh boot_heap boot_toks w os) (topStub pw)=some (sh hA 187 w os,⟨denote treeTable cE,cE,⟨0,0,0,0⟩,fr⟩):=by kernel_rfl
theorem blk0(w:World)(os:OsState):segRun treeTable pw w 11 (some (.ref 6)) 1 1 (sh hA 187 w os) (blockOf bd ev cE ⟨0,0,0,0⟩ fr)=some (.next,sh hA 187 w os,cE,⟨0,0,0,0⟩):=by kernel_rfl
theorem qH7{tb:String->Option Builtin}{p:Program}{w:World}{n₀:Nat}{ann:Option Value}{env:Env}{q:Pos}{n N j:Nat}{s s' r:Shared}{l:List Stmt}{c:Code}{pos p':Pos}(h:segRun tb p w n₀ ann 1 n s (piecesOf (l.take j) env c pos [topFrame q])=some (.next,s',c,p'))
  (k:topRun tb p w n₀ ann N s' (restOf (l.drop j) env c p' [topFrame q])=some r):topRun tb p w n₀ ann (n+N) s (restOf l env c pos [topFrame q])=some r:=by
 have:=piece_app (l:=l.take j) (rest:=l.drop j) h k
 rwa [List.take_append_drop] at this
theorem q61{p q:Program}{loose:List Str}{Xt:Shared->Bool}{α:Type}{Yf:Shared->α}{Ya:World->α}{N:Nat}{g0:Bool}{H₀:Params->Heap}{gs₀:Array GenState}{d₀:Drawn}{k₀ m₀ M N2:Nat}{ann:Option Value}{Z:World->OsState->Shared}{T:Thread}
  (open_:∀w:World,(fencedOpening treeTable p w N).map (λs=>(s.heap,s.gens,s.drawn,s.toks))=some (H₀ w.params,gs₀,d₀,k₀))
  (size:∀w:World,((H₀ w.params).isNs mainGlobals&&gs₀.size==0,(H₀ w.params).objs.size,(H₀ w.params).nsMap mainGlobals "__annotations__")=(true,m₀,ann))
  (run:∀(w:World)(os:OsState)(r:Shared),topRun treeTable p w m₀ ann N2 (Z w os) T=some r->topRun treeTable p w m₀ ann M ⟨H₀ w.params,gs₀,d₀,k₀,os⟩ (topStub p)=some r) (le:Nat.ble M N=true)
  (fin:∀(w:World)(os:OsState),(topRun treeTable p w m₀ ann N2 (Z w os) T).map (λs=>(staticsOk (importedModules p.main.body) (H₀ w.params) s.heap&&namesBound p s.heap&&gensDone s&&laidKept (H₀ w.params) s.heap,openSeen q loose (importedModules p.main.body) Xt g0 s,Yf s))=some (true,openGood q loose,Ya w)):LeftO p q loose Xt Yf Ya N g0:=λw=>by
 obtain⟨⟨h,gs,d,k,os⟩,e,e'⟩:=Zl.mp (open_ w);obtain⟨rfl,rfl,rfl,rfl⟩:h=H₀ w.params/\gs=gs₀/\d=d₀/\k=k₀:=by simpa using e'
 obtain⟨z1,z2,z3⟩:_/\_/\_:=by simpa only [XN] using size w
 obtain⟨r,hr,e2⟩:=Zl.mp (fin w os);obtain⟨l1,l2,l3⟩:_/\_/\_:=by simpa only [XN] using e2
 have r1:=topRun_mono (N-M) _ _ _ _ (run w os r hr);rw[show M+(N-M)=N by have:=Nat.le_of_ble_eq_true le;lia] at r1;have t:topFrom treeTable p w N ⟨H₀ w.params,gs,d,k,os⟩=some r:=by
  unfold topFrom;dsimp only;rw[z1,z2,z3,r1];show (match staticsOk (importedModules p.main.body) (H₀ w.params) r.heap&&namesBound p r.heap&&gensDone r&&laidKept (H₀ w.params) r.heap with|true=>_|false=>_)=_;rw[l1]
 unfold openEnds;rw[e];show (topFrom treeTable p w N ⟨H₀ w.params,gs,d,k,os⟩).map _=_;rw[t];show some (_,_)=some (_,_);rw[l2,l3]
theorem seg1(w:World)(os:OsState):segRun treeTable pw w 11 (some (.ref 6)) 1 1680 (sh hA 187 w os) (piecesOf (bd.take 35) ev cE ⟨0,0,0,0⟩ fr)=some (.next,sh h1 471 w os,cE,⟨86,0,123,26⟩):=by kernel_rfl
theorem run0(w:World)(os:OsState)(r:Shared)(h:topRun treeTable pw w 11 (some (.ref 6)) 514 (sh h1 471 w os) (restOf (bd.drop 35) ev cE ⟨86,0,123,26⟩ fr)=some r):topRun treeTable pw w 11 (some (.ref 6)) (12+(1+(1680+514))) (sh boot_heap boot_toks w os) (topStub pw)=some r:=go_top (pre0 w os) (piece_block (blk0 w os) (qH7 (seg1 w os) h))
theorem opn0:opening pw=plainProg pw.main.scope.names:=by kernel_rfl
theorem fen0(s:Shared):fenceModules? pw s=some s:=by kernel_rfl
def q0:Program:={ pw with main:={ pw.main with body:=keep0.map Pr.top } }
theorem as_K:∀P,as0=(K0 P).map (·.1):=λ_=>by kernel_rfl
abbrev X0:Shared->Bool:=λs=>xlAt q0 [] s&&recOk (RowW.records (OpenRow.toRowW (OpenLaw.row PySem.Challenge.rw_quarterfold_k67_whole_balance_of_boards))) s
set_option maxHeartbeats 0 in
theorem fin0(w:World)(os:OsState):(topRun treeTable pw w 11 (some (.ref 6)) 514 (sh h1 471 w os) (restOf (bd.drop 35) ev cE ⟨86,0,123,26⟩ fr)).map (λs=>(staticsOk (importedModules pw.main.body) (boot_heap w.params) s.heap&&namesBound pw s.heap&&gensDone s&&laidKept (boot_heap w.params) s.heap,openSeen q0 [] (importedModules pw.main.body) X0 true s,Hook.obs (kHook Hd.K0 Hd.as0 Hd.as_K) s))=some (true,openGood q0 [],Hook.val (kHook Hd.K0 Hd.as0 Hd.as_K) w):=by kernel_rfl
theorem xu5:LeftO pw q0 [] X0 (Hook.obs (kHook Hd.K0 Hd.as0 Hd.as_K)) (Hook.val (kHook Hd.K0 Hd.as0 Hd.as_K)) N0:=q61 (boot_open opn0 rfl fen0) (λw=>by kernel_rfl) run0 (by rfl) fin0
end Hd
namespace L2
theorem os1{α:Type}{l:List α}(h:l.length=1):∃a,l=[a]:=List.length_eq_one_iff.mp h
theorem os2{α:Type}{l:List α}(h:l.length=2):∃a b,l=[a,b]:=by
 obtain⟨a,m,rfl⟩:=YF h;obtain⟨b,rfl⟩:=os1 (XD h);exact⟨a,b,rfl⟩
theorem os3{α:Type}{l:List α}(h:l.length=3):∃a b c,l=[a,b,c]:=by
 obtain⟨a,m,rfl⟩:=YF h;obtain⟨b,c,rfl⟩:=os2 (XD h);exact⟨a,b,c,rfl⟩
theorem os4{α:Type}{l:List α}(h:l.length=4):∃a b c d,l=[a,b,c,d]:=by
 obtain⟨a,m,rfl⟩:=YF h;obtain⟨b,c,d,rfl⟩:=os3 (XD h);exact⟨a,b,c,d,rfl⟩
end L2
namespace L2
open PySem PySem.Spec PyProof.Rows
abbrev Key:=Sum Int Str
def qH8:Key->Value->Bool
 |.inl k,v=>Value.isInt k v
 |.inr x,v=>Value.isStrOf x v
def keyH(w:World):Key->Int
 |.inl k=>hashInt k
 |.inr x=>hashStr w x
theorem qd1:∀{k:Key}{v:Value},qH8 k v=true->(∃i t,k=Sum.inl i/\v=Value.int i t)\/(∃x t,k=Sum.inr x/\v=Value.str x t)
 |.inl i,v,h=>by
  obtain⟨t,e⟩:=Value.isInt_shape (k:=i) (v:=v) h;exact .inl ⟨i,t,rfl,e⟩
 |.inr x,v,h=>by
  obtain⟨t,e⟩:=Value.isStrOf_shape (x:=x) (v:=v) h;exact .inr ⟨x,t,rfl,e⟩
theorem qT2(i:Int)(t:Tok):qH8 (.inl i) (.int i t)=true:=by simp[qH8,Value.isInt]
theorem qT3(x:Str)(t:Tok):qH8 (.inr x) (.str x t)=true:=by simp[qH8,Value.isStrOf]
theorem xm8(a b:Int):decide ((Sum.inl a:Key)=Sum.inl b)=(a==b):=by
 by_cases e:a=b
 ·subst e;simp
 ·have h:¬(Sum.inl a:Key)=Sum.inl b:=λq=>e (Xi q);rw[Zp h];exact (Yp.mpr e).symm
theorem xm9(a b:Str):decide ((Sum.inr a:Key)=Sum.inr b)=decide (a=b):=by
 by_cases e:a=b
 ·subst e;simp
 ·have h:¬(Sum.inr a:Key)=Sum.inr b:=λq=>e (Sum.inr.inj q);rw[Zp h,Zp e]
theorem xn0(a:Int)(b:Str):decide ((Sum.inl a:Key)=Sum.inr b)=false:=Zp (λq=>nomatch q)
theorem xn1(a:Str)(b:Int):decide ((Sum.inr a:Key)=Sum.inl b)=false:=Zp (λq=>nomatch q)
def qd5(prog:Program)(w:World):PySem.KeyKind prog w Key where
 is:=qH8
 hash:=keyH w
 inj:=λv a b ha hb=>by
  rcases qd1 ha with ⟨i,t,rfl,rfl⟩|⟨x,t,rfl,rfl⟩
  ·rcases qd1 hb with ⟨j,u,rfl,e⟩|⟨y,u,rfl,e⟩
   ·injection e with e1 _;rw[e1]
   ·exact nomatch e
  ·rcases qd1 hb with ⟨j,u,rfl,e⟩|⟨y,u,rfl,e⟩
   ·exact nomatch e
   ·injection e with e1 _;rw[e1]
 byValue:=λk v h=>by
  rcases qd1 h with ⟨i,t,rfl,rfl⟩|⟨x,t,rfl,rfl⟩<;>rfl
 pyHash:=λhv h=>by
  rcases qd1 hv with ⟨i,t,rfl,rfl⟩|⟨x,t,rfl,rfl⟩
  ·exact wpAny_pyHash_int h
  ·exact wpAny_pyHash_str h
 eqBool:=λhu hv h=>by
  rcases qd1 hu with ⟨i,t,rfl,rfl⟩|⟨x,t,rfl,rfl⟩
  ·rcases qd1 hv with ⟨j,u,rfl,rfl⟩|⟨y,u,rfl,rfl⟩
   ·rw[xm8] at h;exact wpAny_eqBool_int h
   ·rw[xn0] at h;exact SeqAt.EqAt.int_str i t y u _ _ _ _ h
  ·rcases qd1 hv with ⟨j,u,rfl,rfl⟩|⟨y,u,rfl,rfl⟩
   ·rw[xn1] at h;exact SeqAt.EqAt.str_int x t j u _ _ _ _ h
   ·rw[xm9] at h;exact wpAny_eqBool_str h
 «strs»:=λk x t v h=>by
  rcases qd1 h with ⟨i,u,rfl,e⟩|⟨y,u,rfl,e⟩
  ·exact nomatch e
  ·injection e with e1 _
   subst e1;cases v<;>rfl
theorem qH9(prog:Program)(w:World)(i:Int)(t:Tok):(qd5 prog w).is (.inl i) (.int i t)=true:=qT2 i t
theorem qI0(prog:Program)(w:World)(x:Str)(t:Tok):(qd5 prog w).is (.inr x) (.str x t)=true:=qT3 x t
inductive V where
 |non|bl (b:Bool)|int (i:Int)|str (x:Str)|byt (b:Array UInt8)|flt (b:UInt64)|ref (a:Addr)|ty (n:String)
 deriving DecidableEq
def RelV:V->Value->Prop
 |.non,u=>u=Value.none
 |.bl b,u=>u=Value.bool b
 |.int i,u=>∃t,u=Value.int i t
 |.str x,u=>∃t,u=Value.str x t
 |.byt b,u=>∃t,u=Value.bytes b t
 |.flt b,u=>∃t,u=Value.float b t
 |.ref a,u=>u=Value.ref a
 |.ty n,u=>u=Value.type n
abbrev Vals:List V->List Value->Prop:=Paired RelV
theorem Vals.length{xs:List V}{us:List Value}(r:Vals xs us):xs.length=us.length:=YN r
theorem Vals.get:∀{xs:List V}{us:List Value}{i:Nat}{x:V},Vals xs us->xs[i]?=some x->∃u,us[i]?=some u/\RelV x u
 |_,_,_,_,.nil,e=>by simp at e
 |_,_,0,_,.cons r _,e=>by simp at e;subst e;exact⟨_,rfl,r⟩
 |_,_,i+1,x,.cons _ t,e=>by
  obtain⟨u,h1,h2⟩:=Vals.get (i:=i) (x:=x) t (by simpa using e);exact⟨u,by simpa using h1,h2⟩
theorem Vals.set{x:V}{u:Value}(r:RelV x u):∀{xs:List V}{us:List Value}(i:Nat),Vals xs us->Vals (xs.set i x) (us.set i u)
 |_,_,_,.nil=>.nil
 |_,_,0,.cons _ t=>.cons r t
 |_,_,i+1,.cons q t=>.cons q (Vals.set r i t)
theorem Vals.append:∀{xs ys:List V}{us ws:List Value},Vals xs us->Vals ys ws->Vals (xs++ys) (us++ws)
 |_,_,_,_,.nil,s=>s
 |_,_,_,_,.cons r t,s=>.cons r (Vals.append t s)
theorem Vals.take:∀{xs:List V}{us:List Value}(n:Nat),Vals xs us->Vals (xs.take n) (us.take n)
 |_,_,0,_=>.nil
 |_,_,_+1,.nil=>.nil
 |_,_,n+1,.cons r t=>.cons r (Vals.take n t)
theorem Vals.drop:∀{xs:List V}{us:List Value}(n:Nat),Vals xs us->Vals (xs.drop n) (us.drop n)
 |_,_,0,r=>r
 |_,_,_+1,.nil=>.nil
 |_,_,n+1,.cons _ t=>Vals.drop n t
def RelO:Option V->Option Value->Prop
 |some v,some u=>RelV v u
 |none,none=>True
 |_,_=>False
def KV{κ:Type}:List (κ×V)->List (κ×Value)->Prop:=Paired λ(p:κ×V) (q:κ×Value)=>p.1=q.1/\RelV p.2 q.2
def kV:Key->V
 |.inl i=>.int i
 |.inr x=>.str x
inductive HO where
 |lst (xs:List V)
 |tup (xs:List V)
 |dK (kvs:List (Key×V))|dT (kvs:List (List Key×V))
 |set (S:Int->Bool) (n:Nat)
 |ins (C dx:Addr) (fs:List (Str×V))
 |own (x:Addr)
 |xd (fs:List (Str×V))
 |met (f x:Addr)
 |rng (lo hi:Int)
 |frz (o:Obj) (u:HO)
 |tbl (ps:Array Value)
 |ext (φ:Heap->Prop)
abbrev Hp:=Addr->Option HO
def upd(H:Hp)(a:Addr)(o:HO):Hp:=λb=>if b=a then some o else H b
theorem qa1{H:Hp}{a:Addr}{o:HO}:upd H a o a=some o:=by unfold upd;rw[Zm rfl]
theorem qa7{H:Hp}{a b:Addr}{o:HO}(h:b≠a):upd H a o b=H b:=by unfold upd;rw[Zh h]
theorem xn2{H:Hp}{a b:Addr}{o u:HO}(h:H a=some o)(h':H b=some u)(d:o≠u):a≠b:=by
 intro e;subst e;rw[h] at h';exact d (ZC h')
theorem qa4{H:Hp}{a b:Addr}{o:HO}(h:H a=some o)(h':H b=none):a≠b:=by
 intro e;subst e;rw[h] at h';cases h'
def IsTupX(h:Heap)(a:Addr)(items:Array Value):Prop:=∃o,h.get? a=some o/\o.cls=.type "tuple" /\ ∃n:{n:Nat // o.dict=none},o.data=.seq items n.1
theorem IsTupX.is{h:Heap}{a:Addr}{items:Array Value}(x:IsTupX h a items):IsTup h a items:=let ⟨o,h1,h2,n,h3⟩:=x;⟨o,h1,h2,n.1,h3⟩
theorem IsTupX.new(h:Heap)(items:Array Value):IsTupX (h.push { cls:=.type "tuple",data:=.seq items }) h.objs.size items:=⟨_,Zj _ rfl,rfl,⟨_,rfl⟩,rfl⟩
instance{h:Heap}{a:Addr}{items:Array Value}:Coe (IsTupX h a items) (IsTup h a items):=⟨IsTupX.is⟩
instance{h:Heap}{a:Addr}{items:Array Value}:Coe (IsTupX h a items) (h.IsTuple a items):=⟨IsTupX.is⟩
section
variable(P:Program)(w:World)
def ObjOk(H:Hp)(h:Heap)(a:Addr):HO->Prop
 |.lst xs=>xs.length<=sizeLine/\∃(its:List Value)(n:Nat),Vals xs its/\h.get? a=some { cls:=.type "list",data:=.seq its.toArray n }
 |.tup xs=>xs.length<=sizeLine/\∃its:List Value,Vals xs its/\IsTupX h a its.toArray
 |.dK kvs=>kvs.length<=sizeLine/\(a==sysModules)=false/\∃vs,KV kvs vs/\h.DictOf (qd5 P w) a vs
 |.dT kvs=>kvs.length<=sizeLine/\(a==sysModules)=false/\∃xs:List (List Key×Addr×Value),
   Paired (λ(p:List Key×V) (q:List Key×Addr×Value)=>p.1=q.1/\H q.2.1=some (.tup (p.1.map kV))/\RelV p.2 q.2.2) kvs xs /\
   ∃o es ep,h.get? a=some o/\o.ExactDict/\o.data=.dict es ep/\es.toList=xs.map (entryOfKey (tupleKind (qd5 P w)))/\(xs.map (·.1)).Nodup
 |.set S n=>h.SetOf (intKind P w) a S n
 |.ins C dx fs=>H dx=some (.own a)/\fs.length<=1000/\dx≠a/\h.get? a=some (PySem.W.instObj C dx) /\
   ∃mA,h.Ns1 dx mA/\(∀f,RelO (fs.lookup f) (mA f))/\PySem.Within mA (fs.map (·.1))
 |.own _=>∃o,h.get? a=some o
 |.xd fs=>∃mA,h.Ns1 a mA/\∀f,RelO (fs.lookup f) (mA f)
 |.rng lo hi=>∃t u v,h.get? a=some { cls:=.type "range",data:=.fields #[.int lo t,.int hi u,.int 1 v] }
 |.frz o u=>h.get? a=some o/\ObjOk H h a u
 |.tbl ps=>h.get? a=some { cls:=.none,data:=.fields ps }
 |.met f x=>h.get? a=some (PySem.W.methodObj (.ref f) (.ref x))
 |.ext φ=>φ h/\(∃o,h.get? a=some o)/\∀h1 h2:Heap,φ h1->(∀o,h1.get? a=some o->h2.get? a=some o)->φ h2
def HOk(H:Hp)(h:Heap):Prop:=∀a o,H a=some o->ObjOk P w H h a o
end
section
variable{P:Program}{w:World}{H H':Hp}{h h':Heap}{a:Addr}{o:HO}
theorem ObjOk.lt(x:ObjOk P w H h a o):a<h.objs.size:=by
 cases o with
 |lst xs=>obtain⟨_,_,_,_,e⟩:=x;exact Zr e
 |tup xs=>obtain⟨_,_,_,p⟩:=x;exact (IsTupX.is p).lt
 |dK kvs=>obtain⟨_,_,_,_,o,_,_,e,_⟩:=x;exact Zr e
 |dT kvs=>obtain⟨_,_,_,_,o,_,_,e,_⟩:=x;exact Zr e
 |set S n=>obtain⟨o,_,_,_,e,_⟩:=x;exact Zr e
 |ins C dx fs=>obtain⟨_,_,_,e,_⟩:=x;exact Zr e
 |own y=>obtain⟨_,e⟩:=x;exact Zr e
 |xd fs=>obtain⟨_,⟨_,_,_,e,_⟩,_⟩:=x;exact Zr e
 |rng lo hi=>obtain⟨_,_,_,e⟩:=x;exact Zr e
 |frz ob u=>obtain⟨e,_⟩:=x;exact Zr e
 |tbl ps=>exact Zr (show h.get? a=some _ from x)
 |met f y=>exact Zr (show h.get? a=some _ from x)
 |ext φ=>obtain⟨_,⟨_,e⟩,_⟩:=x;exact Zr e
theorem Paired.mapP{α β:Type}{F G:α->β->Prop}:∀{l₁:List α}{l₂:List β},Paired F l₁ l₂->(∀a b,F a b->G a b)->Paired G l₁ l₂
 |_,_,.nil,_=>.nil
 |_,_,.cons r t,f=>.cons (f _ _ r) (Paired.mapP t f)
theorem ObjOk.stay(x:ObjOk P w H h a o)(k:∀b u,(b=a\/H b=some (.own a))->h.get? b=some u->h'.get? b=some u)
  (ho:∀b,H b=some (.own a)->H' b=some (.own a)) (ht:∀b xs,H b=some (.tup xs)->H' b=some (.tup xs)):ObjOk P w H' h' a o:=by
 induction o with
 |lst xs=>obtain⟨z,its,n,r,e⟩:=x;exact⟨z,its,n,r,k _ _ (.inl rfl) e⟩
 |tup xs=>obtain⟨z,its,r,ob,e,c⟩:=x;exact⟨z,its,r,ob,k _ _ (.inl rfl) e,c⟩
 |dK kvs=>obtain⟨z,y,vs,r,ob,es,ep,e,c⟩:=x;exact⟨z,y,vs,r,ob,es,ep,k _ _ (.inl rfl) e,c⟩
 |dT kvs=>
  obtain⟨z,y,xs,r,ob,es,ep,e,c⟩:=x;exact⟨z,y,xs,Paired.mapP r λp q z=>⟨z.1,ht _ _ z.2.1,z.2.2⟩,ob,es,ep,k _ _ (.inl rfl) e,c⟩
 |set S n=>obtain⟨ob,es,ep,t,e,c⟩:=x;exact⟨ob,es,ep,t,k _ _ (.inl rfl) e,c⟩
 |ins C dx fs=>
  obtain⟨d,z,ne,e,mA,⟨od,es,ep,e2,c⟩,r⟩:=x;exact⟨ho _ d,z,ne,k _ _ (.inl rfl) e,mA,⟨od,es,ep,k _ _ (.inr d) e2,c⟩,r⟩
 |own y=>obtain⟨ob,e⟩:=x;exact⟨ob,k _ _ (.inl rfl) e⟩
 |xd fs=>obtain⟨mA,⟨od,es,ep,e,c⟩,r⟩:=x;exact⟨mA,⟨od,es,ep,k _ _ (.inl rfl) e,c⟩,r⟩
 |rng lo hi=>obtain⟨t,u,v,e⟩:=x;exact⟨t,u,v,k _ _ (.inl rfl) e⟩
 |frz ob u ih=>obtain⟨e,q⟩:=x;exact⟨k _ _ (.inl rfl) e,ih q⟩
 |tbl ps=>
  have e:h.get? a=some { cls:=.none,data:=.fields ps }:=x;show h'.get? a=some { cls:=.none,data:=.fields ps };exact k a _ (.inl rfl) e
 |met f y=>
  have e:h.get? a=some (PySem.W.methodObj (.ref f) (.ref y)):=x;show h'.get? a=some (PySem.W.methodObj (.ref f) (.ref y));exact k a _ (.inl rfl) e
 |ext φ=>obtain⟨p,⟨o,e⟩,st⟩:=x;exact⟨st _ _ p λo q=>k _ _ (.inl rfl) q,⟨o,k _ _ (.inl rfl) e⟩,st⟩
theorem HOk.lt(x:HOk P w H h)(e:H a=some o):a<h.objs.size:=(x a o e).lt
theorem HOk.fresh(x:HOk P w H h)(e:h.objs.size<=a):H a=none:=by
 cases q:H a with
 |none=>rfl
 |some u=>exact absurd (ZJ (x.lt q) e) (Ym _)
theorem HOk.kept(x:HOk P w H h)(k:∀b u,h.get? b=some u->h'.get? b=some u):HOk P w H h':=λa o e=>
 (x a o e).stay (λb u _ q=>k b u q) (λ_ q=>q) λ_ _ q=>q
theorem HOk.laid(x:HOk P w H h)(k:∀b u,h.get? b=some u->h'.get? b=some u)(hp:h.objs.size<=a)(new:ObjOk P w (upd H a o) h' a o):HOk P w (upd H a o) h':=λb u e=>by
 have hn:=x.fresh hp;by_cases hb:b=a
 ·subst hb;rw[qa1] at e;cases e;exact new
 ·rw[qa7 hb] at e;exact (x b u e).stay (λc v _ q=>k c v q) (λc q=>by rw[qa7 (qa4 q hn)];exact q) λc xs q=>by rw[qa7 (qa4 q hn)];exact q
end
def Rd(H:Hp)(a:Addr)(u:HO):Prop:=H a=some u\/∃o,H a=some (.frz o u)
theorem Rd.ok{P:Program}{w:World}{H:Hp}{h:Heap}{a:Addr}{u:HO}(r:Rd H a u)(x:HOk P w H h):ObjOk P w H h a u:=by
 rcases r with r|⟨o,r⟩
 ·exact x a u r
 ·obtain⟨_,q⟩:=x a _ r;exact q
def Mut:Option HO->Prop
 |some (.lst _)=>True
 |some (.dK _)=>True
 |some (.dT _)=>True
 |some (.set _ _)=>True
 |some (.ins _ _ _)=>True
 |some (.ext _)=>True
 |_=>False
section
variable{P:Program}{w:World}{H:Hp}{h h':Heap}{x e:Addr}{o':HO}
theorem HOk.write(ok:HOk P w H h)(mu:Mut (H x))(he:e=x\/H e=some (.own x))(k:∀b u,b≠e->h.get? b=some u->h'.get? b=some u)(heo:∃u,h'.get? e=some u)
  (new:ObjOk P w (upd H x o') h' x o'):HOk P w (upd H x o') h':=λb u q=>by
 have nown:∀c y,H c=some (.own y)->c≠x:=λc y r z=>by subst z;rw[r] at mu;exact mu
 have ntup:∀c xs,H c=some (.tup xs)->c≠x:=λc xs r z=>by subst z;rw[r] at mu;exact mu
 by_cases hb:b=x
 ·subst hb;rw[qa1] at q;cases q;exact new
 ·rw[qa7 hb] at q;by_cases vF:b=e
  ·have q':H b=some (.own x):=by
    rcases he with z|z
    ·exact absurd (vF.trans z) hb
    ·rw[vF];exact z
   rw[q] at q';cases q';obtain⟨v,hv⟩:=heo;exact⟨v,by rw[vF];exact hv⟩
  ·refine (ok b u q).stay (λc v hc r=>k c v ?_ r) (λc r=>by rw[qa7 (nown c b r)];exact r) λc xs r=>by rw[qa7 (ntup c xs r)];exact r
   rcases hc with rfl|hc
   ·exact vF
   ·rintro rfl;rcases he with z|z
    ·exact nown c b hc z
    ·rw[hc] at z;cases z;exact hb rfl
end
structure Un(fs ex:List Addr)(H H':Hp)(h h':Heap):Prop where
 keep:∀b o,h.get? b=some o->H b=none->b∉fs->b∉ex->h'.get? b=some o
 slot:∀b o,h.get? b=some o->H b=none->b∈fs->b∉ex->∃sl,h'.get? b=some { o with slots:=sl }
 free:∀b o,h.get? b=some o->H b=none->b∉ex->H' b=none
 there:∀b o,h.get? b=some o->b∉ex->∃o',h'.get? b=some o'
 tups:∀b xs,H b=some (.tup xs)->H' b=some (.tup xs)
 frzs:∀b o u,H b=some (.frz o u)->H' b=some (.frz o u)
 tbls:∀b ps,H b=some (.tbl ps)->∃more,H' b=some (.tbl (ps++more))
section
variable{fs fs' ex ex':List Addr}{H H1 H2:Hp}{h h1 h2 h':Heap}{a x e:Addr}{o:HO}
theorem Un.any(u:Un fs ex H H1 h h1){b:Addr}{ob:Obj}(q:h.get? b=some ob)(n:H b=none)(hx:b∉ex):∃sl,h1.get? b=some { ob with slots:=sl }:=by
 by_cases hb:b∈fs
 ·exact u.slot b ob q n hb hx
 ·exact⟨ob.slots,u.keep b ob q n hb hx⟩
theorem Un.kept(k:∀b u,h.get? b=some u->h'.get? b=some u):Un fs ex H H h h':=
 ⟨λb ob q _ _ _=>k b ob q,λb ob q _ _ _=>⟨ob.slots,k b ob q⟩,λ_ _ _ n _=>n,λb ob q _=>⟨ob,k b ob q⟩,λ_ _ q=>q,λ_ _ _ q=>q,λ_ ps q=>⟨#[],by rw[q];simp⟩⟩
theorem Un.refl:Un fs ex H H h h:=Un.kept λ_ _ q=>q
theorem Un.laid(k:∀b u,h.get? b=some u->h'.get? b=some u)(hp:h.objs.size<=a)(hn:H a=none):Un fs ex H (upd H a o) h h' where
 keep:=λb u q _ _ _=>k b u q
 slot:=λb u q _ _ _=>⟨u.slots,k b u q⟩
 free:=λb u q n _=>by rw[qa7 (ZB (ZJ (Zr q) hp))];exact n
 there:=λb u q _=>⟨u,k b u q⟩
 tups:=λb xs q=>by rw[qa7 (qa4 q hn)];exact q
 frzs:=λb u xs q=>by rw[qa7 (qa4 q hn)];exact q
 tbls:=λb ps q=>⟨#[],by rw[qa7 (qa4 q hn),q];simp⟩
theorem Un.write(mu:Mut (H x))(he:e=x\/H e=some (.own x))(k:∀b u,b≠e->h.get? b=some u->h'.get? b=some u)(heo:∃u,h'.get? e=some u):Un fs ex H (upd H x o) h h':=by
 have hx:∀b,H b=none->b≠x:=λb n z=>by subst z;rw[n] at mu;exact mu
 have hb:∀b,H b=none->b≠e:=λb n z=>by
  subst z;rcases he with r|r
  ·exact hx b n r
  ·rw[n] at r;cases r
 have hm:∀b u,H b=some u->¬Mut (some u)->b≠x:=λb u q nm z=>by subst z;rw[q] at mu;exact nm mu
 refine⟨λb u q n _ _=>k b u (hb b n) q,λb u q n _ _=>⟨u.slots,k b u (hb b n) q⟩,λb u q n _=>by rw[qa7 (hx b n)];exact n,λb u q _=>?_,
  λb xs q=>by rw[qa7 (hm b _ q λz=>z)];exact q,λb u xs q=>by rw[qa7 (hm b _ q λz=>z)];exact q,λb ps q=>⟨#[],by rw[qa7 (hm b _ q λz=>z),q];simp⟩⟩
 by_cases vF:b=e
 ·subst vF;exact heo
 ·exact⟨u,k b u vF q⟩
end
def trk(h:Heap)(H:Hp):List Addr:=(List.range h.objs.size).filter λa=>(H a).isSome
def hidT(h:Heap)(H:Hp):Heap:=PySem.W.hideAll h (trk h H)
theorem qT4(h:Heap)(H:Hp):(hidT h H).objs.size=h.objs.size:=PySem.W.hideAll_size _ _
theorem q62{h:Heap}{H:Hp}{b:Addr}{o:Obj}(e:h.get? b=some o)(n:H b=none):(hidT h H).get? b=some o:=
 PySem.W.hideAll_get _ e λhm=>by
  have q:(H b).isSome=true:=(Yr.mp hm).2;rw[n] at q;simp at q
theorem xf4{h:Heap}{H:Hp}{b:Addr}{o:Obj}(e:(hidT h H).get? b=some o):h.get? b=some o/\H b=none:=by
 have e':h.get? b=some o:=PySem.W.of_hideAll (trk h H) e;refine⟨e',?_⟩;cases q:H b with
 |none=>rfl
 |some x=>
  have hm:b∈trk h H:=Yr.mpr ⟨ZW.mpr (Zr e'),by simp[q]⟩;have z:(hidT h H).get? b=none:=PySem.W.hideAll_none (trk h H) hm;rw[z] at e;cases e
structure Mod(K:PySem.W.Frag)(mg:Str->Option Value)(base:Heap):Prop where
 kin:K.In base
 glob:base.Ns mainGlobals mg
 blt:∃mb,base.Ns builtinsNs mb/\∀x:Str,x ≠ "__name__" -> mb x=bootBuiltins x
 nolimit:base.NoLimit
structure Cx where
 prog:Program
 w:World
 K:PySem.W.Frag
 mg:Str->Option Value
 base:Heap
 A:Around
 N:List Str
 s₀:Shared
 H₀:Hp
 env:Env
 outer:List Env
 stack:List Env
 ex:List Addr
 fn:Str->Bool
 calm:Bool
 pn:List (Addr×Obj)
 xe:Value->Shared->Prop
def frs(l:List Env):List Addr:=l.filterMap (·.frame)
abbrev Cx.fs(X:Cx):List Addr:=frs X.outer
def Vis(sc:Scope)(x:Str):Prop:=sc.names.lookup x=some .local\/sc.names.lookup x=some .cell\/sc.names.lookup x=some .free
def Loc(sc:Scope)(x:Str):Prop:=sc.names.lookup x=some .local\/sc.names.lookup x=some .cell
def Look(env:Env)(h:Heap)(m:Str->Option Value)(x:Str)(u:Value):Prop:=
 (env.kindOf x=some .local/\m x=some u)\/((env.kindOf x=some .cell\/env.kindOf x=some .free)/\∃c,env.cells.lookup x=some c/\h.IsCell c (some u))
structure Cx.Ok(X:Cx):Prop where
 mod:Mod X.K X.mg X.base
 kind:X.env.scope.kind=.function
 glob:X.env.globals=mainGlobals
 blt:X.env.builtins=builtinsNs
 above:X.s₀.heap.objs.size<=X.env.locals
 inj:∀x y c,X.env.cells.lookup x=some c->X.env.cells.lookup y=some c->x=y
 has:∀x,(X.env.kindOf x=some .cell\/X.env.kindOf x=some .free)->∃c,X.env.cells.lookup x=some c
 cab:∀x c,X.fn x=true->X.env.cells.lookup x=some c->X.s₀.heap.objs.size<=c
 hd:X.calm=true->X.A.handled=none
 frames:X.A.frames=some X.stack
 stk:X.stack=X.outer\/(X.stack=X.env::X.outer/\X.env.frame=some X.env.locals)
 exf:∀b∈X.ex,b≠X.env.locals/\∀x c,X.env.cells.lookup x=some c->c≠b
 bs:∀b o,X.base.get? b=some o->X.s₀.heap.get? b=some o/\X.H₀ b=none
 bsz:X.base.objs.size<=X.s₀.heap.objs.size
 noex:∀b o,X.base.get? b=some o->b∉X.ex
 exfs:∀b∈X.ex,b∉X.fs
 funs:X.s₀.heap.FunFrames X.base X.outer
 frf:∀b∈X.fs,X.H₀ b=none
structure Inv(X:Cx)(j1:List (Addr×Obj))(σ:List (Option V))(H:Hp)(s:Shared):Prop where
 ok:X.Ok
 os:s.os=X.s₀.os
 bare:AllBare s.gens
 base:Un X.fs X.ex X.H₀ H X.s₀.heap s.heap
 loc:∃m,s.heap.Ns X.env.locals m/\∀(i:Nat)(x:Str)(v:V),X.N[i]?=some x->σ[i]?=some (some v)->Vis X.env.scope x->∃u,RelV v u/\Look X.env s.heap m x u
 cell:∀x c,X.env.cells.lookup x=some c->∃v,s.heap.IsCell c v
 free:H X.env.locals=none
 freeC:∀x c,X.env.cells.lookup x=some c->H c=none
 pin:∀p∈X.pn++j1,s.heap.get? p.1=some p.2/\H p.1=none/\p.1≠X.env.locals/\p.1∉X.fs/\∀v,p.2.data≠.cell v
 hok:HOk X.prog X.w H s.heap
 len:σ.length=X.N.length
section
variable{X:Cx}{j1:List (Addr×Obj)}{σ:List (Option V)}{H H':Hp}{s:Shared}{h':Heap}
theorem Cx.Ok.nofr(ok:X.Ok){b:Addr}{o:Obj}(e:X.base.get? b=some o):b∉X.fs:=λhb=>by
 have:=(ok.funs.mem hb).1;rw[e] at this;cases this
theorem Inv.bs(I:Inv X j1 σ H s):∀b o,X.base.get? b=some o->s.heap.get? b=some o/\H b=none:=λb o e=>
 ⟨I.base.keep b o (I.ok.bs b o e).1 (I.ok.bs b o e).2 (I.ok.nofr e) (I.ok.noex b o e),I.base.free b o (I.ok.bs b o e).1 (I.ok.bs b o e).2 (I.ok.noex b o e)⟩
theorem Inv.bk(I:Inv X j1 σ H s):∀b o,X.base.get? b=some o->s.heap.get? b=some o:=λb o e=>(I.bs b o e).1
theorem Inv.mod(I:Inv X j1 σ H s):Mod X.K X.mg X.base:=I.ok.mod
theorem Inv.kIn(I:Inv X j1 σ H s):X.K.In s.heap:=I.ok.mod.kin.keeps I.bk
theorem Inv.lt(I:Inv X j1 σ H s):X.env.locals<s.heap.objs.size:=let ⟨_,hn,_⟩:=I.loc;hn.lt
theorem Inv.sz(I:Inv X j1 σ H s):X.s₀.heap.objs.size<=s.heap.objs.size:=ZH I.ok.above (Wc I.lt)
theorem Inv.nofs(I:Inv X j1 σ H s){a:Addr}(h:s.heap.objs.size<=a):a∉X.fs:=λhb=>by
 obtain⟨_,o,ho,_⟩:=I.ok.funs.mem hb;exact absurd (ZJ (Zr ho) (ZH I.sz h)) (Ym _)
theorem Inv.cne(I:Inv X j1 σ H s):∀x c,X.env.cells.lookup x=some c->c≠X.env.locals:=λx c e z=>by
 obtain⟨v,o,ho,hd⟩:=I.cell x c e;obtain⟨m,⟨o',es,ep,ho',hd',_⟩,_⟩:=I.loc;rw[z,ho'] at ho;cases ho;rw[hd'] at hd;cases hd
theorem Inv.funs(I:Inv X j1 σ H s):s.heap.FunFrames X.base X.outer:=by
 have all:∀(l:List Env),(∀b∈frs l,b∈X.fs)->X.s₀.heap.FunFrames X.base l->s.heap.FunFrames X.base l:=by
  intro l
  induction l with
  |nil=>intro _ _;trivial
  |cons env r ih=>
   intro hs hl;obtain⟨hk,⟨L,o,hf,hn,ho,hd⟩,hr⟩:=hl;have hL:L∈X.fs:=hs L (by unfold frs;rw[Yq,hf];exact Zu);obtain⟨sl,e⟩:=I.base.slot L o ho (I.ok.frf L hL) hL λz=>I.ok.exfs L z hL;exact⟨hk,⟨L,_,hf,hn,e,hd⟩,ih (λb hb=>hs b (by unfold frs;rw[Yq,hf];exact Zn _ hb)) hr⟩
 exact all X.outer (λ_ hb=>hb) I.ok.funs
theorem Inv.stack(I:Inv X j1 σ H s):s.heap.FunFrames X.base X.stack:=by
 rcases I.ok.stk with e|⟨e,hf⟩
 ·rw[e];exact I.funs
 ·rw[e];obtain⟨m,hn,_⟩:=I.loc;refine .cons (by rw[I.ok.kind];decide) hf hn ?_ I.funs;exact Heap.get?_none_of_le (ZH I.ok.bsz I.ok.above)
theorem Inv.stkSub(I:Inv X j1 σ H s):∀b∈frs X.stack,b∈X.env.locals::X.fs:=λb hb=>by
 rcases I.ok.stk with e|⟨e,hf⟩
 ·rw[e] at hb;exact Zn _ hb
 ·rw[e] at hb;unfold frs at hb;rw[Yq,hf] at hb;exact hb
theorem Inv.stkFree(I:Inv X j1 σ H s):∀b∈frs X.stack,H b=none:=λb hb=>by
 rcases Zv.mp (I.stkSub b hb) with e|hb
 ·rw[e];exact I.free
 ·obtain⟨_,o,ho,_⟩:=I.ok.funs.mem hb;exact I.base.free b o ho (I.ok.frf b hb) λz=>I.ok.exfs b z hb
theorem Inv.step{g':Array GenState}{t':Nat}{d':Drawn}{ch:List Addr}(I:Inv X j1 σ H s)
  (kN:∀b∈ch,(b∈X.ex\/X.s₀.heap.objs.size<=b)/\b≠X.env.locals/\(∀x c,X.env.cells.lookup x=some c->c≠b)/\∀p∈X.pn++j1,p.1≠b)
  (keep:∀b o,b≠X.env.locals->b∉X.fs->b∉ch->s.heap.get? b=some o->H b=none->h'.get? b=some o)
  (slot:∀b o,b≠X.env.locals->b∈X.fs->b∉ch->s.heap.get? b=some o->H b=none->∃sl,h'.get? b=some { o with slots:=sl }) (free:∀b o,b∉ch->s.heap.get? b=some o->H b=none->H' b=none)
  (there:∀b o,b∉ch->s.heap.get? b=some o->∃o',h'.get? b=some o')
  (tups:∀b xs,H b=some (.tup xs)->H' b=some (.tup xs)) (frzs:∀b o u,H b=some (.frz o u)->H' b=some (.frz o u)) (tbls:∀b ps,H b=some (.tbl ps)->∃more,H' b=some (.tbl (ps++more)))
  (ns:∀m,s.heap.Ns X.env.locals m->h'.Ns X.env.locals m) (hok:HOk X.prog X.w H' h') (hg:AllBare g') :
  Inv X j1 σ H' { s with heap:=h',gens:=g',drawn:=d',toks:=t' }:=by
 have neL:∀b o,X.s₀.heap.get? b=some o->b≠X.env.locals:=λb o e=>ZB (ZJ (Zr e) I.ok.above);have neC:∀b o,X.s₀.heap.get? b=some o->b∉X.ex->b∉ch:=λb o e hx hb=>by
  rcases (kN b hb).1 with z|z
  ·exact hx z
  ·exact absurd (ZJ (Zr e) z) (Ym _)
 have cellK:∀x c,X.env.cells.lookup x=some c->∀v,s.heap.IsCell c v->h'.IsCell c v:=λx c e v ⟨o,ho,hd⟩=>by
  have nch:c∉ch:=λz=>(kN c z).2.2.1 x c e rfl;by_cases hc:c∈X.fs
  ·obtain⟨sl,q⟩:=slot c o (I.cne x c e) hc nch ho (I.freeC x c e);exact⟨_,q,hd⟩
  ·exact⟨o,keep c o (I.cne x c e) hc nch ho (I.freeC x c e),hd⟩
 refine⟨I.ok,I.os,hg,⟨λb o e n hb hx=>?_,λb o e n hb hx=>?_,λb o e n hx=>?_,λb o e hx=>?_,λb xs e=>tups b xs (I.base.tups b xs e),λb o xs e=>frzs b o xs (I.base.frzs b o xs e),λb ps e=>?_⟩,?_,λx c e=>?_,?_,λx c e=>?_,λp hp=>?_,hok,I.len⟩
 ·exact keep b o (neL b o e) hb (neC b o e hx) (I.base.keep b o e n hb hx) (I.base.free b o e n hx)
 ·obtain⟨sl,e1⟩:=I.base.slot b o e n hb hx;obtain⟨sl',e2⟩:=slot b _ (neL b o e) hb (neC b o e hx) e1 (I.base.free b o e n hx);exact⟨sl',e2⟩
 ·obtain⟨o',e1⟩:=I.base.there b o e hx;exact free b o' (neC b o e hx) e1 (I.base.free b o e n hx)
 ·obtain⟨o',e1⟩:=I.base.there b o e hx;exact there b o' (neC b o e hx) e1
 ·obtain⟨m1,e1⟩:=I.base.tbls b ps e;obtain⟨m2,e2⟩:=tbls b _ e1;exact⟨m1++m2,by rw[e2,Array.append_assoc]⟩
 ·obtain⟨m,hn,hl⟩:=I.loc;refine⟨m,ns m hn,λi x v e1 e2 e3=>?_⟩;obtain⟨u,r,l⟩:=hl i x v e1 e2 e3;refine⟨u,r,?_⟩;rcases l with l|⟨k,c,e,z⟩
  ·exact .inl l
  ·exact .inr ⟨k,c,e,cellK x c e _ z⟩
 ·obtain⟨v,z⟩:=I.cell x c e;exact⟨v,cellK x c e v z⟩
 ·obtain⟨m,⟨o,_,_,ho,_⟩,_⟩:=I.loc;exact free _ o (λz=>(kN _ z).2.1 rfl) ho I.free
 ·obtain⟨v,o,ho,hd⟩:=I.cell x c e;exact free c o (λz=>(kN c z).2.2.1 x c e rfl) ho (I.freeC x c e)
 ·obtain⟨e,n,ne,nf,d⟩:=I.pin p hp;have nch:p.1∉ch:=λz=>(kN p.1 z).2.2.2 p hp rfl;exact⟨keep p.1 p.2 ne nf nch e n,free p.1 p.2 nch e n,ne,nf,d⟩
theorem Inv.un{t':Nat}(I:Inv X j1 σ H s)(u:Un X.fs [] H H' s.heap h')(hok:HOk X.prog X.w H' h'):Inv X j1 σ H' { s with heap:=h',toks:=t' }:=by
 obtain⟨m,⟨o,es,ep,ho,r⟩,_⟩:=id I.loc;obtain⟨sl,hL⟩:=u.any ho I.free (by simp);exact I.step (g':=s.gens) (d':=s.drawn) (ch:=[]) (λ_ z=>nomatch z) (λb o _ hb _ e n=>u.keep b o e n hb (by simp)) (λb o _ hb _ e n=>u.slot b o e n hb (by simp)) (λb o _ e n=>u.free b o e n (by simp)) (λb o _ e=>u.there b o e (by simp)) u.tups u.frzs u.tbls (λm' hm=>by
  obtain⟨o',es',ep',ho',r'⟩:=hm;rw[ho] at ho';cases ho';exact⟨_,es',ep',hL,r'⟩) hok I.bare
theorem Inv.call{g':Array GenState}{t':Nat}{d':Drawn}{ch:List Addr}(I:Inv X j1 σ H s)(u:Un (frs X.stack) ch H H' s.heap h')(hok:HOk X.prog X.w H' h')(hg:AllBare g')
  (kN:∀b∈ch,(b∈X.ex\/X.s₀.heap.objs.size<=b)/\b≠X.env.locals/\(∀x c,X.env.cells.lookup x=some c->c≠b)/\∀p∈X.pn++j1,p.1≠b) :
  Inv X j1 σ H' { s with heap:=h',gens:=g',drawn:=d',toks:=t' }:=by
 obtain⟨m,⟨o,es,ep,ho,r⟩,_⟩:=id I.loc;obtain⟨sl,hL⟩:=u.any ho I.free λz=>(kN _ z).2.1 rfl;exact I.step (ch:=ch) kN (λb o hL hb hc e n=>u.keep b o e n (λz=>(Zv.mp (I.stkSub b z)).elim hL hb) hc) (λb o _ _ hc e n=>u.any e n hc) (λb o hc e n=>u.free b o e n hc) (λb o hc e=>u.there b o e hc) u.tups u.frzs u.tbls (λm' hm=>by
  obtain⟨o',es',ep',ho',r'⟩:=hm;rw[ho] at ho';cases ho';exact⟨_,es',ep',hL,r'⟩) hok hg
theorem Inv.turned{t':Nat}{it:Addr}(I:Inv X j1 σ H s)(k:∀b o,b≠it->s.heap.get? b=some o->h'.get? b=some o)(hn:H it=none)(hL:it≠X.env.locals)
  (h1:it∈X.ex\/X.s₀.heap.objs.size<=it) (h2:∀x c,X.env.cells.lookup x=some c->c≠it) (h3:∀p∈X.pn++j1,p.1≠it):Inv X j1 σ H { s with heap:=h',toks:=t' }:=by
 have nit:∀b u,H b=some u->b≠it:=λb u e z=>by rw[z,hn] at e;cases e
 refine I.step (g':=s.gens) (d':=s.drawn) (ch:=[it]) (λb hb=>?_) (λb o _ _ hc e _=>k b o (λz=>hc (by simp[z])) e) (λb o _ _ hc e _=>⟨o.slots,k b o (λz=>hc (by simp[z])) e⟩) (λ_ _ _ _ n=>n)
  (λb o hc e=>⟨o,k b o (λz=>hc (by simp[z])) e⟩) (λ_ _ e=>e) (λ_ _ _ e=>e) (λb ps e=>⟨#[],by rw[e];simp⟩) (λm hm=>?_) (λb u e=>?_) I.bare
 ·have e:b=it:=by simpa using hb
  subst e;exact⟨h1,hL,h2,h3⟩
 ·obtain⟨o,es,ep,ho,r⟩:=hm;exact⟨o,es,ep,k _ o (Xc hL) ho,r⟩
 ·refine (I.hok b u e).stay (λc v hc q=>k c v ?_ q) (λ_ q=>q) λ_ _ q=>q;rcases hc with z|z
  ·rw[z];exact nit b u e
  ·exact nit c _ z
theorem Inv.tok(I:Inv X j1 σ H s)(t:Nat):Inv X j1 σ H { s with toks:=t }:=I.un (h':=s.heap) (t':=t) Un.refl I.hok
theorem Inv.kept{t':Nat}(I:Inv X j1 σ H s)(k:∀b u,s.heap.get? b=some u->h'.get? b=some u):Inv X j1 σ H { s with heap:=h',toks:=t' }:=I.un (Un.kept k) (I.hok.kept k)
theorem Inv.laid{a:Addr}{o:HO}{t':Nat}(I:Inv X j1 σ H s)(k:∀b u,s.heap.get? b=some u->h'.get? b=some u)(hp:s.heap.objs.size<=a)(new:ObjOk X.prog X.w (upd H a o) h' a o) :
  Inv X j1 σ (upd H a o) { s with heap:=h',toks:=t' }:=I.un (Un.laid k hp (I.hok.fresh hp)) (I.hok.laid k hp new)
theorem Inv.write{x e:Addr}{o:HO}{t':Nat}(I:Inv X j1 σ H s)(mu:Mut (H x))(he:e=x\/H e=some (.own x))(k:∀b u,b≠e->s.heap.get? b=some u->h'.get? b=some u)(heo:∃u,h'.get? e=some u)
  (new:ObjOk X.prog X.w (upd H x o) h' x o):Inv X j1 σ (upd H x o) { s with heap:=h',toks:=t' }:=I.un (Un.write mu he k heo) (I.hok.write mu he k heo new)
theorem Inv.pins_of{pins':List (Addr×Obj)}(I:Inv X j1 σ H s)(h:∀p∈pins',s.heap.get? p.1=some p.2/\H p.1=none/\p.1≠X.env.locals/\p.1∉X.fs/\∀v,p.2.data≠.cell v):Inv X pins' σ H s:=
 ⟨I.ok,I.os,I.bare,I.base,I.loc,I.cell,I.free,I.freeC,λp hp=>(Yi.mp hp).elim (λz=>I.pin p (Xz _ z)) (h p),I.hok,I.len⟩
theorem qK7{N:List Str}(hN:N.Nodup){i j:Nat}{x:Str}(a:N[i]?=some x)(b:N[j]?=some x):i=j:=by
 obtain⟨h1,e1⟩:=gS_ a;obtain⟨h2,e2⟩:=gS_ b;exact (List.getElem_inj hN).mp (e1.trans e2.symm)
theorem qT5{M:Model}{A:Around}{E:Value->Shared->Prop}{i:Nat}{x:Str}{v:V}{u:Value}{Q:Unit->Shared->Prop}(I:Inv X j1 σ H s)(hN:X.N.Nodup)(hi:X.N[i]?=some x)(hx:Loc X.env.scope x)(r:RelV v u)
  (h:∀s',Inv X j1 (σ.set i (some v)) H s'->(∃a,Heap.SameBut a s.heap s'.heap/\(a=X.env.locals\/X.env.cells.lookup x=some a))->Q () s') (hf:X.fn x=true\/X.env.scope.names.lookup x=some .local:=by first|exact .inl rfl|exact .inr rfl|assumption):wpAny M A (storeName X.env x u) Q E s:=by
 obtain⟨m,hn,hl⟩:=id I.loc;have hcls:(X.env.scope.kind==.class||(X.env.scope.kind==.module&&X.env.locals != X.env.globals))=false:=by rw[I.ok.kind];rfl
 have hiσ:i<σ.length:=by rw[I.len];exact (gS_ hi).1
 have cne:=I.cne;have tracked:∀{a:Addr}{h':Heap},(∃o,s.heap.get? a=some o/\H a=none)->Heap.SameBut a s.heap h'->HOk X.prog X.w H h':=λ{a h'} ha hs b ob e=>by
  obtain⟨_,_,hfree⟩:=ha;refine (I.hok b ob e).stay (λc w' hc q=>(hs.2 c ?_).trans q) (λ_ q=>q) λ_ _ q=>q;rintro rfl;rcases hc with rfl|hc
  ·rw[hfree] at e;cases e
  ·rw[hfree] at hc;cases hc
 rcases hx with hk|hk
 ·refine wpAny_storeName_local hk hn (λh' hn' hs=>?_) hcls;obtain⟨oL,_,_,hoL,_⟩:=id hn;refine h _ ⟨I.ok,I.os,I.bare,⟨λb o e n hb hx=>?_,λb o e n hb hx=>?_,I.base.free,λb o e hx=>?_,I.base.tups,I.base.frzs,I.base.tbls⟩,⟨_,hn',λj y v' e1 e2 e3=>?_⟩,λy c e=>?_,I.free,I.freeC,λp hp=>?_,tracked ⟨oL,hoL,I.free⟩ hs,by simpa using I.len⟩ ⟨_,hs,.inl rfl⟩
  ·exact (hs.2 b (ZB (ZJ (Zr e) I.ok.above))).trans (I.base.keep b o e n hb hx)
  ·obtain⟨sl,e1⟩:=I.base.slot b o e n hb hx;exact⟨sl,(hs.2 b (ZB (ZJ (Zr e) I.ok.above))).trans e1⟩
  ·obtain⟨o',e1⟩:=I.base.there b o e hx;exact⟨o',(hs.2 b (ZB (ZJ (Zr e) I.ok.above))).trans e1⟩
  ·by_cases hj:j=i
   ·subst hj;rw[hi] at e1;cases e1;rw[List.getElem?_set_self hiσ] at e2;cases e2;exact⟨u,r,.inl ⟨hk,by simp⟩⟩
   ·rw[List.getElem?_set_ne (Xc hj)] at e2;obtain⟨u',r',q⟩:=hl j y v' e1 e2 e3;refine⟨u',r',?_⟩;rcases q with ⟨k,e⟩|⟨k,c,e,z⟩
    ·refine .inl ⟨k,?_⟩;have:y≠x:=λe=>hj (qK7 hN e1 (e▸hi));simp[this,e]
    ·exact .inr ⟨k,c,e,z.sameBut hs (cne y c e)⟩
  ·obtain⟨w',z⟩:=I.cell y c e;exact⟨w',z.sameBut hs (cne y c e)⟩
  ·obtain⟨e,n,ne,nf,d⟩:=I.pin p hp;exact⟨(hs.2 p.1 ne).trans e,n,ne,nf,d⟩
 ·have hfn:X.fn x=true:=by
   rcases hf with z|z
   ·exact z
   ·rw[z] at hk;cases hk
  obtain⟨c,hc⟩:=I.ok.has x (.inl hk);obtain⟨w',z⟩:=I.cell x c hc;refine wpAny_storeName_cell I.ok.kind hk hc z (λh' hc' hs=>?_);obtain⟨oc,hoc,hocd⟩:=id z;refine h { s with heap:=h' } ⟨I.ok,I.os,I.bare,⟨λb o e n hb hx=>?_,λb o e n hb hx=>?_,I.base.free,λb o e hx=>?_,I.base.tups,I.base.frzs,I.base.tbls⟩,⟨m,hn.sameBut hs (Xc (cne x c hc)),λj y v' e1 e2 e3=>?_⟩,λy c' e=>?_,I.free,I.freeC,λp hp=>?_,tracked ⟨oc,hoc,I.freeC x c hc⟩ hs,by simpa using I.len⟩ ⟨c,hs,.inr hc⟩
  ·exact (hs.2 b (ZB (ZJ (Zr e) (I.ok.cab x c hfn hc)))).trans (I.base.keep b o e n hb hx)
  ·obtain⟨sl,e1⟩:=I.base.slot b o e n hb hx;exact⟨sl,(hs.2 b (ZB (ZJ (Zr e) (I.ok.cab x c hfn hc)))).trans e1⟩
  ·obtain⟨o',e1⟩:=I.base.there b o e hx;exact⟨o',(hs.2 b (ZB (ZJ (Zr e) (I.ok.cab x c hfn hc)))).trans e1⟩
  ·by_cases hj:j=i
   ·subst hj;rw[hi] at e1;cases e1;rw[List.getElem?_set_self hiσ] at e2;cases e2;exact⟨u,r,.inr ⟨.inl hk,c,hc,hc'⟩⟩
   ·rw[List.getElem?_set_ne (Xc hj)] at e2;obtain⟨u',r',q⟩:=hl j y v' e1 e2 e3;refine⟨u',r',?_⟩;rcases q with q|⟨k,c',e,z'⟩
    ·exact .inl q
    ·refine .inr ⟨k,c',e,z'.sameBut hs ?_⟩;rintro rfl;exact hj (qK7 hN e1 (I.ok.inj _ _ _ e hc▸hi))
  ·by_cases hcc:c'=c
   ·subst hcc;exact⟨_,hc'⟩
   ·obtain⟨w2,z2⟩:=I.cell y c' e;exact⟨w2,z2.sameBut hs hcc⟩
  ·obtain⟨e,n,ne,nf,d⟩:=I.pin p hp;refine⟨(hs.2 p.1 ?_).trans e,n,ne,nf,d⟩;intro q;rw[q,hoc] at e;have q':oc=p.2:=ZC e;exact d w' (by rw[<- q'];exact hocd)
theorem qy8{M:Model}{A:Around}{E:Value->Shared->Prop}{i:Nat}{x:Str}{v:V}{u:Value}{Q:Unit->Shared->Prop}(I:Inv X j1 σ H s)(hN:X.N.Nodup)(hi:X.N[i]?=some x)(hx:Loc X.env.scope x)(r:RelV v u)
  (h:∀s',Inv X j1 (σ.set i (some v)) H s'->Q () s') (hf:X.fn x=true\/X.env.scope.names.lookup x=some .local:=by first|exact .inl rfl|exact .inr rfl|assumption):wpAny M A (storeName X.env x u) Q E s:=
 qT5 I hN hi hx r (λs' I' _=>h s' I') hf
theorem Inv.call'{s':Shared}{ch:List Addr}(I:Inv X j1 σ H s)(ho:s'.os=s.os)(u:Un (frs X.stack) ch H H' s.heap s'.heap)(hok:HOk X.prog X.w H' s'.heap)(hg:AllBare s'.gens)
  (kN:∀b∈ch,(b∈X.ex\/X.s₀.heap.objs.size<=b)/\b≠X.env.locals/\(∀x c,X.env.cells.lookup x=some c->c≠b)/\∀p∈X.pn++j1,p.1≠b):Inv X j1 σ H' s':=by
 obtain⟨h',g',d',t',o'⟩:=s';have e:o'=s.os:=ho;subst e;exact I.call (g':=g') (t':=t') (d':=d') u hok hg kN
end
abbrev XK:=Value->Option Addr->Hp->Prop
abbrev St:=List (Option V)
abbrev VK:=V->Hp->Prop
abbrev TE:=St->Hp->VK->Prop
abbrev TT:=St->Hp->(Bool->Hp->Prop)->Prop
abbrev TA:=St->Hp->(List V->Hp->Prop)->Prop
structure Ends where
 nx:St->Hp->Prop
 rt:VK
 bk:St->Hp->Prop:=λ_ _=>False
 ct:St->Hp->Prop:=λ_ _=>False
abbrev TS:=Ends->St->Hp->Prop
def EP(X:Cx)(j1:List (Addr×Obj))(σ:St)(Q:VK)(u:Value)(s':Shared):Prop:=∃v H',Inv X j1 σ H' s'/\RelV v u/\Q v H'
def TP(X:Cx)(j1:List (Addr×Obj))(σ:St)(Q:Bool->Hp->Prop)(b:Bool)(s':Shared):Prop:=∃H',Inv X j1 σ H' s'/\Q b H'
def AP(X:Cx)(j1:List (Addr×Obj))(σ:St)(Q:List V->Hp->Prop)(us:List Value)(s':Shared):Prop:=∃vs H',Inv X j1 σ H' s'/\Vals vs us/\Q vs H'
def SP(X:Cx)(j1:List (Addr×Obj))(D:Ends)(f:Flow)(s':Shared):Prop:=
 match f with
 |.next=>∃σ' H',Inv X j1 σ' H' s'/\D.nx σ' H'
 |.brk=>∃σ' H',Inv X j1 σ' H' s'/\D.bk σ' H'
 |.cont=>∃σ' H',Inv X j1 σ' H' s'/\D.ct σ' H'
 |.ret u=>∃v σ' H',Inv X j1 σ' H' s'/\RelV v u/\D.rt v H'
def PE(X:Cx)(e:Expr)(t:TE):Prop:=
 ∀(j1:List (Addr×Obj))(s:Shared)(σ:St)(H:Hp)(Q:VK),Inv X j1 σ H s->t σ H Q->wpAny (model X.prog X.w) X.A (eval e X.env) (EP X j1 σ Q) X.xe s
def PT(X:Cx)(e:Expr)(t:TT):Prop:=
 ∀(j1:List (Addr×Obj))(s:Shared)(σ:St)(H:Hp)(Q:Bool->Hp->Prop),Inv X j1 σ H s->t σ H Q->wpAny (model X.prog X.w) X.A (isTrue e X.env (eval e X.env)) (TP X j1 σ Q) X.xe s
def PW(X:Cx)(e:Expr)(t:TT):Prop:=
 ∀(whole:Sem Value)(j1:List (Addr×Obj))(s:Shared)(σ:St)(H:Hp)(Q:Bool->Hp->Prop),Inv X j1 σ H s->t σ H Q->wpAny (model X.prog X.w) X.A (isTrue e X.env whole) (TP X j1 σ Q) X.xe s
theorem PW.pt{X:Cx}{e:Expr}{t:TT}(h:PW X e t):PT X e t:=h _
def PA(X:Cx)(es:List Expr)(t:TA):Prop:=
 ∀(pos:Pos)(j1:List (Addr×Obj))(s:Shared)(σ:St)(H:Hp)(Q:List V->Hp->Prop),Inv X j1 σ H s->t σ H Q->wpAny (model X.prog X.w) X.A (spliced (backTo pos (starEach es X.env))) (AP X j1 σ Q) X.xe s
def PS(X:Cx)(st:Stmt)(t:TS):Prop:=
 ∀(j1:List (Addr×Obj))(s:Shared)(σ:St)(H:Hp)(D:Ends),Inv X j1 σ H s->t D σ H->wpAny (model X.prog X.w) X.A (exec st X.env) (SP X j1 D) X.xe s
def PSs(X:Cx)(st:List Stmt)(t:TS):Prop:=
 ∀(j1:List (Addr×Obj))(s:Shared)(σ:St)(H:Hp)(D:Ends),Inv X j1 σ H s->t D σ H->wpAny (model X.prog X.w) X.A (execs st X.env) (SP X j1 D) X.xe s
theorem thn{α:Type}{t:Sem α}{Q Q':α->Shared->Prop}{M:Model}{A:Around}{E:Value->Shared->Prop}{s:Shared}(h:wpAny M A t Q E s)(hQ:∀a s,Q a s->Q' a s):wpAny M A t Q' E s:=Yu h hQ λ_ _ x=>x
section
variable{X:Cx}
inductive tVar_(i:Nat)(σ:St)(H:Hp)(Q:VK):Prop
 |mk(v:_)(e0:σ[i]?=some (some v))(e1:Q v H)
def tVar(i:Nat):TE:=λσ H Q=>tVar_ i σ H Q
def tC(v:V):TE:=λ_ H Q=>Q v H
theorem xn3{i:Nat}{x:Str}{pos:Pos}(hN:X.N[i]?=some x)(hv:Vis X.env.scope x)(hd:(x==("__debug__" : Str))=false:=by decide)(k5:(x==("__classdict__" : Str))=false:=by decide):PE X (.Name x pos) (tVar i):=by
 intro j1 s σ H Q I h;obtain⟨v,e,h⟩:=h;obtain⟨m,hn,hl⟩:=I.loc;obtain⟨u,r,l⟩:=hl i x v hN e hv;have fin:EP X j1 σ Q u s:=⟨v,H,I,r,h⟩;rcases l with ⟨hk,hm⟩|⟨hk,c,hc,j3⟩
 ·exact wpAny_Name (wpAny_loadName_local I.ok.kind hk hn hm fin) hd
 ·rcases hk with hk|hk
  ·exact wpAny_Name (wpAny_loadName_cell I.ok.kind hk hc j3 fin) hd
  ·exact wpAny_Name (wpAny_loadName_free I.ok.kind hk hc j3 fin k5) hd
theorem qa3 {i j pos}:PE X (.Constant (.int i) j pos) (tC (.int i)):=λ_ _ _ H _ I h=>wpAny_Constant_int ⟨.int i,H,I.tok _,⟨_,rfl⟩,h⟩
theorem qk6 {b j pos}:PE X (.Constant (.bool b) j pos) (tC (.bl b)):=λ_ _ _ H _ I h=>Constant_bool ⟨.bl b,H,I,rfl,h⟩
theorem qq7 {x j pos}:PE X (.Constant (.str x) j pos) (tC (.str x)):=λ_ _ _ H _ I h=>Calls.Constant_str ⟨.str x,H,I.tok _,⟨_,rfl⟩,h⟩
def Gl(X:Cx)(x:Str):Prop:=X.env.kindOf x=some .globalImplicit
theorem qI1{E:Value->Shared->Prop}{j1:List (Addr×Obj)}{s:Shared}{σ:St}{H:Hp}{x:Str}{u:Value}{pos:Pos}{Q:Value->Shared->Prop}(I:Inv X j1 σ H s)(hg:Gl X x)(hm:X.mg x=some u)(h:Q u s)
  (hd:(x==("__debug__" : Str))=false:=by decide):wpAny (model X.prog X.w) X.A (eval (.Name x pos) X.env) Q E s:=
 Calls.Name_function_global I.ok.kind hg (Calls.loadGlobal_global (by rw[I.ok.glob];exact I.mod.glob.keeps I.bk) hm h) hd
theorem qx5{E:Value->Shared->Prop}{j1:List (Addr×Obj)}{s:Shared}{σ:St}{H:Hp}{x:Str}{u:Value}{pos:Pos}{Q:Value->Shared->Prop}(I:Inv X j1 σ H s)(hg:Gl X x)(hm:X.mg x=none)(hv:bootBuiltins x=some u)(h:Q u s)
  (hn:x ≠ "__name__":=by decide) (hd:(x==("__debug__" : Str))=false:=by decide):wpAny (model X.prog X.w) X.A (eval (.Name x pos) X.env) Q E s:=by
 obtain⟨mb,h1,h2⟩:=I.mod.blt;exact Calls.Name_function_global I.ok.kind hg (Calls.loadGlobal_builtin (by rw[I.ok.glob];exact I.mod.glob.keeps I.bk) hm (by rw[I.ok.blt];exact h1.keeps I.bk) ((h2 x hn).trans hv) h) hd
theorem qc5{x:Str}{v:V}{u:Value}{pos:Pos}(hg:Gl X x)(hm:X.mg x=some u)(r:RelV v u)(hd:(x==("__debug__" : Str))=false:=by decide):PE X (.Name x pos) (tC v):=
 λ_ _ _ H _ I h=>qI1 I hg hm ⟨v,H,I,r,h⟩ hd
theorem qo8{x:Str}{v:V}{u:Value}{pos:Pos}(hg:Gl X x)(hm:X.mg x=none)(hv:bootBuiltins x=some u)(r:RelV v u)(hn:x ≠ "__name__":=by decide)(hd:(x==("__debug__" : Str))=false:=by decide):PE X (.Name x pos) (tC v):=
 λ_ _ _ H _ I h=>qx5 I hg hm hv ⟨v,H,I,r,h⟩ hn hd
variable{a b:Expr}{ta tb:TE}{pos:Pos}
def PC(X:Cx)(op:CmpOp)(a b:Expr)(t:TE):Prop:=
 ∀(j1:List (Addr×Obj))(s:Shared)(σ:St)(H:Hp)(Q:VK),Inv X j1 σ H s->t σ H Q ->
  wpAny (model X.prog X.w) X.A (eval a X.env) (λv s₁=>wpAny (model X.prog X.w) X.A (eval b X.env) (λu s₂=>wpAny (model X.prog X.w) X.A (compareOp op v u) (EP X j1 σ Q) X.xe s₂) X.xe s₁) X.xe s
inductive tB_(Q:Bool->Hp->Prop)(x:V)(H1:Hp):Prop
 |mk(c:_)(e0:x=.bl c)(e1:Q c H1)
def tB(t:TE):TT:=λσ H Q=>t σ H λx H1=>tB_ Q x H1
theorem qT6{op:CmpOp}{t:TE}(h:PC X op a b t)(h1:behindInMarks op b=false:=by first|exact nobehind _ (by decide) (by decide)|rfl):PE X (.Compare a [op] [b] pos) t:=λj1 s σ H Q I hw=>wpAny_Compare1 (h j1 s σ H Q I hw) h1
theorem qT7{op:CmpOp}{t:TE}(h:PC X op a b t)(h1:behindInMarks op b=false:=by first|exact nobehind _ (by decide) (by decide)|rfl):PT X (.Compare a [op] [b] pos) (tB t):=by
 intro j1 s σ H Q I hw;refine wpAny_isTrue_Compare1 (thn (h j1 s σ H _ I hw) λv s1 h1=>thn h1 λu s2 h2=>thn h2 λc s3 ⟨x,H1,I1,r1,q1⟩=>?_) h1;obtain⟨d,rfl,q⟩:=q1;cases r1;exact ZX ⟨H1,I1,q⟩
theorem qg9{e:Expr}{t:TE}(h:PE X e t)(he:∀whole,isTrue e X.env whole=(do let v <- whole;standAt e.pos;holding [v] (truthy v)):=by intro _;rfl):PT X e (tB t):=by
 intro j1 s σ H Q I hw;refine isTrue_plain (thn (h j1 s σ H _ I hw) λv s1 ⟨x,H1,I1,r1,q1⟩=>?_) (he _);obtain⟨d,rfl,q⟩:=q1;cases r1;exact ZX ⟨H1,I1,q⟩
variable{tA tB':TT}{rest:List Expr}
def tAnd(t u:TT):TT:=λσ H Q=>t σ H λc H1=>if c=true then u σ H1 Q else Q false H1
def tOr(t u:TT):TT:=λσ H Q=>t σ H λc H1=>if c=true then Q true H1 else u σ H1 Q
def tNot(t:TT):TT:=λσ H Q=>t σ H λc H1=>Q (!c) H1
theorem xf5(ha:PT X a tA):PW X (.BoolOp .And [a] pos) tA:=by
 intro wh j1 s σ H Q I h;refine isTrue_and (thn (ha j1 s σ H Q I h) λc s1 e=>?_);cases c with
 |true=>exact isTrue_and_nil e
 |false=>exact e
theorem qk7(ha:PT X a tA):PW X (.BoolOp .Or [a] pos) tA:=by
 intro wh j1 s σ H Q I h;refine isTrue_or (thn (ha j1 s σ H Q I h) λc s1 e=>?_);cases c with
 |false=>exact isTrue_or_nil e
 |true=>exact e
theorem xn4(ha:PT X a tA)(hb:PW X (.BoolOp .And (b::rest) pos) tB'):PW X (.BoolOp .And (a::b::rest) pos) (tAnd tA tB'):=by
 intro wh j1 s σ H Q I h;refine isTrue_and (thn (ha j1 s σ H _ I h) λc s1 ⟨H1,I1,q1⟩=>?_);cases c with
 |true=>exact hb wh j1 s1 σ H1 Q I1 q1
 |false=>exact⟨H1,I1,q1⟩
theorem qt2(ha:PT X a tA)(hb:PW X (.BoolOp .Or (b::rest) pos) tB'):PW X (.BoolOp .Or (a::b::rest) pos) (tOr tA tB'):=by
 intro wh j1 s σ H Q I h;refine isTrue_or (thn (ha j1 s σ H _ I h) λc s1 ⟨H1,I1,q1⟩=>?_);cases c with
 |true=>exact⟨H1,I1,q1⟩
 |false=>exact hb wh j1 s1 σ H1 Q I1 q1
theorem qq8(ha:PT X a tA):PT X (.UnaryOp .Not a pos) (tNot tA):=by
 intro j1 s σ H Q I h;exact isTrue_not (ha j1 s σ H (λc H1=>Q (!c) H1) I h)
def xu6(ta tb:TE):TE:=λσ H Q=>ta σ H λx H1=>∃c,x=.bl c/\if c=true then tb σ H1 Q else Q (.bl false) H1
def xu7(ta:TE):TE:=λσ H Q=>ta σ H λx H1=>∃c,x=.bl c/\Q (.bl (!c)) H1
theorem qq9 {op}{t:TE}(h:PE X a t):PE X (.BoolOp op [a] pos) t:=λj1 s σ H Q I hw=>BoolOp_one (h j1 s σ H Q I hw)
theorem qr0(ha:PE X a ta)(hb:PE X (.BoolOp .And (b::rest) pos) tb):PE X (.BoolOp .And (a::b::rest) pos) (xu6 ta tb):=by
 intro j1 s σ H Q I h;refine BoolOp_and (thn (ha j1 s σ H _ I h) λv s1 ⟨x,H1,I1,r1,q1⟩=>?_);obtain⟨c,rfl,q1⟩:=q1;cases r1;refine ZX ?_;cases c with
 |true=>exact hb j1 s1 σ H1 Q I1 q1
 |false=>exact⟨.bl false,H1,I1,rfl,q1⟩
theorem xn5(ha:PE X a ta):PE X (.UnaryOp .Not a pos) (xu7 ta):=by
 intro j1 s σ H Q I h;refine UnaryOp_ (thn (ha j1 s σ H _ I h) λv s1 ⟨x,H1,I1,r1,q1⟩=>?_);obtain⟨c,rfl,q1⟩:=q1;cases r1;exact not_of (ZX ⟨.bl (!c),H1,I1,rfl,q1⟩)
def tIf(t:TT)(ta tb:TE):TE:=λσ H Q=>t σ H λc H1=>if c=true then ta σ H1 Q else tb σ H1 Q
theorem q63{c:Expr}(hc:PT X c tA)(ha:PE X a ta)(hb:PE X b tb):PE X (.IfExp c a b pos) (tIf tA ta tb):=by
 intro j1 s σ H Q I h;refine wpAny_IfExp (thn (hc j1 s σ H _ I h) λd s1 ⟨H1,I1,q1⟩=>?_);cases d with
 |true=>exact ha j1 s1 σ H1 Q I1 q1
 |false=>exact hb j1 s1 σ H1 Q I1 q1
end
def SqL(K:PySem.W.Frag)(H:Hp)(a:Addr)(xs:List V):Prop:=
 Rd H a (.lst xs) \/
  ∃(o:Obj)(its:Array Value)(n:Nat),K.lookup a=some o/\o.cls=.type "list" /\ o.dict=none/\o.data=.seq its n/\its.size<=sizeLine/\Vals xs its.toList
def SqT(K:PySem.W.Frag)(H:Hp)(a:Addr)(xs:List V):Prop:=
 Rd H a (.tup xs) \/
  ∃(o:Obj)(its:Array Value)(n:Nat),K.lookup a=some o/\o.cls=.type "tuple" /\ o.data=.seq its n/\its.size<=sizeLine/\Vals xs its.toList
def absV:Value->Option V
 |.none=>some .non
 |.bool b=>some (.bl b)
 |.int i _=>some (.int i)
 |.str x _=>some (.str x)
 |.bytes b _=>some (.byt b)
 |.float b _=>some (.flt b)
 |.ref a=>some (.ref a)
 |.type n=>some (.ty n)
 |_=>none
theorem RelV.abs{x:V}{u:Value}(r:RelV x u):absV u=some x:=by
 cases x with
 |non=>cases r;rfl
 |bl _=>cases r;rfl
 |int _=>obtain⟨t,rfl⟩:=r;rfl
 |str _=>obtain⟨t,rfl⟩:=r;rfl
 |byt _=>obtain⟨t,rfl⟩:=r;rfl
 |flt _=>obtain⟨t,rfl⟩:=r;rfl
 |ref _=>cases r;rfl
 |ty _=>cases r;rfl
theorem RelV.inj{x y:V}{u:Value}(r:RelV x u)(q:RelV y u):x=y:=ZC (r.abs.symm.trans q.abs)
theorem Vals.inj:∀{xs ys:List V}{us:List Value},Vals xs us->Vals ys us->xs=ys
 |_,_,_,.nil,.nil=>rfl
 |_,_,_,.cons r t,.cons r' t'=>by rw[r.inj r',Vals.inj t t']
section
variable{X:Cx}{j1:List (Addr×Obj)}{σ:St}{H:Hp}{s:Shared}{a:Addr}{xs ys:List V}
theorem SqL.of{K:PySem.W.Frag}(h:H a=some (.lst xs)):SqL K H a xs:=.inl (.inl h)
theorem SqT.of{K:PySem.W.Frag}(h:H a=some (.tup xs)):SqT K H a xs:=.inl (.inl h)
theorem Inv.list(I:Inv X j1 σ H s)(h:SqL X.K H a xs):∃its:List Value,Vals xs its/\PlainL s.heap a its.toArray/\xs.length<=sizeLine:=by
 rcases h with h|⟨o,its,n,hk,hc,hd,hs,hz,r⟩
 ·obtain⟨z,its,n,r,e⟩:=h.ok I.hok;exact⟨its,r,⟨_,n,e,rfl,rfl,rfl⟩,z⟩
 ·refine⟨its.toList,r,⟨o,n,I.kIn a o hk,hc,hd,by simpa using hs⟩,?_⟩;have e:=r.length;simp only[Z6] at e;lia
theorem Inv.tuple(I:Inv X j1 σ H s)(h:SqT X.K H a xs):∃its:List Value,Vals xs its/\IsTup s.heap a its.toArray/\xs.length<=sizeLine:=by
 rcases h with h|⟨o,its,n,hk,hc,hs,hz,r⟩
 ·obtain⟨z,its,r,p⟩:=h.ok I.hok;exact⟨its,r,p,z⟩
 ·refine⟨its.toList,r,⟨o,I.kIn a o hk,hc,n,by simpa using hs⟩,?_⟩;have e:=r.length;simp only[Z6] at e;lia
theorem Inv.list_inj(I:Inv X j1 σ H s)(h:SqL X.K H a xs)(h':SqL X.K H a ys):xs=ys:=by
 obtain⟨its,r,⟨o,n,e,_,_,d⟩,_⟩:=I.list h;obtain⟨its',r',⟨o',n',e',_,_,d'⟩,_⟩:=I.list h';rw[e] at e';cases e';rw[d] at d';injection d' with d1 _
 have:its=its':=by simpa using ZQ Array.toList d1
 subst this;exact r.inj r'
theorem Inv.tuple_inj(I:Inv X j1 σ H s)(h:SqT X.K H a xs)(h':SqT X.K H a ys):xs=ys:=by
 obtain⟨its,r,⟨o,e,_,n,d⟩,_⟩:=I.tuple h;obtain⟨its',r',⟨o',e',_,n',d'⟩,_⟩:=I.tuple h';rw[e] at e';cases e';rw[d] at d';injection d' with d1 _
 have:its=its':=by simpa using ZQ Array.toList d1
 subst this;exact r.inj r'
end
abbrev Cx.wish(X:Cx)(E:Value->Shared->Prop):Cx:={ X with xe:=E }
abbrev Cx.nox(X:Cx):Cx:=X.wish λ_ _=>False
theorem Cx.Ok.wish{X:Cx}(ok:X.Ok)(E:Value->Shared->Prop):(X.wish E).Ok:=
 ⟨ok.mod,ok.kind,ok.glob,ok.blt,ok.above,ok.inj,ok.has,ok.cab,ok.hd,ok.frames,ok.stk,ok.exf,ok.bs,ok.bsz,ok.noex,ok.exfs,ok.funs,ok.frf⟩
theorem Cx.Ok.unwish{X:Cx}{E:Value->Shared->Prop}(ok:(X.wish E).Ok):X.Ok:=
 ⟨ok.mod,ok.kind,ok.glob,ok.blt,ok.above,ok.inj,ok.has,ok.cab,ok.hd,ok.frames,ok.stk,ok.exf,ok.bs,ok.bsz,ok.noex,ok.exfs,ok.funs,ok.frf⟩
section
variable{X:Cx}{j1:List (Addr×Obj)}{σ:St}{H:Hp}{s:Shared}{E:Value->Shared->Prop}
theorem Inv.wish(I:Inv X j1 σ H s)(E:Value->Shared->Prop):Inv (X.wish E) j1 σ H s:=⟨I.ok.wish E,I.os,I.bare,I.base,I.loc,I.cell,I.free,I.freeC,I.pin,I.hok,I.len⟩
theorem Inv.unwish(I:Inv (X.wish E) j1 σ H s):Inv X j1 σ H s:=⟨I.ok.unwish,I.os,I.bare,I.base,I.loc,I.cell,I.free,I.freeC,I.pin,I.hok,I.len⟩
theorem SP.unwish{D:Ends}{f:Flow}{s':Shared}(h:SP (X.wish E) j1 D f s'):SP X j1 D f s':=by
 cases f with
 |next=>obtain⟨σ',H',I,q⟩:=h;exact⟨σ',H',I.unwish,q⟩
 |brk=>obtain⟨σ',H',I,q⟩:=h;exact⟨σ',H',I.unwish,q⟩
 |cont=>obtain⟨σ',H',I,q⟩:=h;exact⟨σ',H',I.unwish,q⟩
 |ret u=>obtain⟨v,σ',H',I,r,q⟩:=h;exact⟨v,σ',H',I.unwish,r,q⟩
theorem PSs.nox{st:List Stmt}{t:TS}(h:PSs X.nox st t):PSs X st t:=λj1 s σ H D I hw=>
 Yu (h j1 s σ H D (I.wish _) hw) (λ_ _ q=>q.unwish) λ_ _ z=>False.elim z
end
section
variable{X:Cx}{st:Stmt}{rest:List Stmt}{t u:TS}{e:Expr}{te:TE}{pos:Pos}
def xu8:TS:=λD σ H=>D.nx σ H
def tSeq(t u:TS):TS:=λD σ H=>t { D with nx:=u D } σ H
theorem qb7:PSs X [] xu8:=λ_ _ σ H _ I h=>wpAny_execs_nil ⟨σ,H,I,h⟩
theorem qc2(h1:PS X st t)(h2:PSs X rest u):PSs X (st::rest) (tSeq t u):=by
 intro j1 s σ H D I h;refine wpAny_execs_cons (thn (h1 j1 s σ H { D with nx:=u D } I h) λf s1 q=>?_);cases f with
 |next=>
  obtain⟨σ',H',I',q⟩:=q;exact h2 j1 s1 σ' H' D I' q
 |ret v=>exact q
 |brk=>exact q
 |cont=>exact q
theorem qa9(h1:PS X st t):PSs X [st] t:=by
 intro j1 s σ H D I h;refine wpAny_execs_cons (thn (h1 j1 s σ H D I h) λf s1 q=>?_);cases f with
 |next=>exact wpAny_execs_nil q
 |ret v=>exact q
 |brk=>exact q
 |cont=>exact q
theorem Inv.quiet{j1:List (Addr×Obj)}{σ:St}{H:Hp}{s:Shared}(I:Inv X j1 σ H s):interactive X.env=false:=by simp[interactive,I.ok.kind]
def xu9(te:TE):TS:=λD σ H=>te σ H λ_ H1=>D.nx σ H1
theorem ql0(he:PE X e te)(hs:swapsWith e none pos.line X.env=pure false:=by rfl):PS X (.Expr e pos) (xu9 te):=by
 intro j1 s σ H D I h;exact wpAny_Expr_any (thn (he j1 s σ H _ I h) λv s1 ⟨x,H1,I1,r1,q1⟩=>⟨σ,H1,I1,q1⟩) I.quiet hs
def tRet(te:TE):TS:=λD σ H=>te σ H D.rt
theorem qb1(he:PE X e te):PS X (.Return (some e) pos) (tRet te):=by
 intro j1 s σ H D I h;exact wpAny_Return_some (thn (he j1 s σ H _ I h) λv s1 ⟨x,H1,I1,r1,q1⟩=>⟨x,σ,H1,I1,r1,q1⟩)
def xv0:TS:=λD _ H=>D.rt .non H
theorem qT8:PS X (.Return none pos) xv0:=λ_ _ σ H _ I h=>wpAny_Return_none ⟨.non,σ,H,I,rfl,h⟩
def tIfS(c:TT)(t u:TS):TS:=λD σ H=>c σ H λb H1=>if b=true then t D σ H1 else u D σ H1
theorem qe5{c:Expr}{a b:List Stmt}{tc:TT}(hc:PT X c tc)(ha:PSs X a t)(hb:PSs X b u):PS X (.If c a b pos) (tIfS tc t u):=by
 intro j1 s σ H D I h;refine wpAny_If (thn (hc j1 s σ H _ I h) λd s1 ⟨H1,I1,q1⟩=>?_);cases d with
 |true=>exact ha j1 s1 σ H1 D I1 q1
 |false=>exact hb j1 s1 σ H1 D I1 q1
def xn6:TS:=λ_ _ _=>False
theorem qi4{sts:List Stmt}:PSs X sts xn6:=λ_ _ _ _ _ _ h=>h.elim
end
abbrev TG:=V->St->Hp->(St->Hp->Prop)->Prop
abbrev TGs:=List V->St->Hp->(St->Hp->Prop)->Prop
def PG(X:Cx)(target:Expr)(t:TG):Prop:=
 ∀(j1:List (Addr×Obj))(s:Shared)(σ:St)(H:Hp)(v:V)(u:Value)(Q:St->Hp->Prop),Inv X j1 σ H s->RelV v u->t v σ H Q ->
  wpAny (model X.prog X.w) X.A (assign target X.env u) (λ_ s'=>∃σ' H',Inv X j1 σ' H' s'/\Q σ' H') X.xe s
def PGs(X:Cx)(ts:List Expr)(t:TGs):Prop:=
 ∀(j1:List (Addr×Obj))(s:Shared)(σ:St)(H:Hp)(vs:List V)(us:List Value)(Q:St->Hp->Prop),Inv X j1 σ H s->Vals vs us->t vs σ H Q ->
  wpAny (model X.prog X.w) X.A (assignInOrder ((assignEach ts X.env).map (·.2)) us) (λ_ s'=>∃σ' H',Inv X j1 σ' H' s'/\Q σ' H') X.xe s
abbrev TSet:=V->V->V->Hp->(Hp->Prop)->Prop
def PSet(X:Cx)(t:TSet):Prop:=
 ∀(j1:List (Addr×Obj))(s:Shared)(σ:St)(H:Hp)(o i v:V)(ov iv u:Value)(Q:Hp->Prop),Inv X j1 σ H s->RelV o ov->RelV i iv->RelV v u->t o i v H Q ->
  wpAny (model X.prog X.w) X.A (setItem ov iv u) (λ_ s'=>∃H',Inv X j1 σ H' s'/\Q H') X.xe s
section
variable{X:Cx}{pos:Pos}
def qf2(i:Nat):TG:=λv σ H Q=>Q (σ.set i (some v)) H
theorem ql1{i:Nat}{x:Str}(hN:X.N.Nodup)(hi:X.N[i]?=some x)(hx:Loc X.env.scope x)(hf:X.fn x=true\/X.env.scope.names.lookup x=some .local:=by first|exact .inl rfl|exact .inr rfl|assumption):PG X (.Name x pos) (qf2 i):=by
 intro j1 s σ H v u Q I r h;exact wpAny_assign_Name (qy8 I hN hi hx r (λs' I'=>⟨_,H,I',h⟩) hf)
def gNil:TGs:=λvs σ H Q=>vs=[]/\Q σ H
inductive gCons_(t:TG)(u:TGs)(vs:List V)(σ:St)(H:Hp)(Q:St->Hp->Prop):Prop
 |mk(v:_)(r:_)(e0:vs=v::r)(e1:t v σ H λσ' H'=>u r σ' H' Q)
def qy9(t:TG)(u:TGs):TGs:=λvs σ H Q=>gCons_ t u vs σ H Q
theorem qh3:PGs X [] gNil:=by
 intro j1 s σ H vs us Q I r h;obtain⟨e,h⟩:=h;subst e;cases r;exact assignInOrder_nil ⟨σ,H,I,h⟩
theorem qb9{e:Expr}{es:List Expr}{t:TG}{u:TGs}(h1:PG X e t)(h2:PGs X es u)
  (hs:(assignEach (e::es) X.env).map (·.2)=assign e X.env::(assignEach es X.env).map (·.2):=by rfl):PGs X (e::es) (qy9 t u):=by
 intro j1 s σ H vs us Q I r h;obtain⟨v,vr,e1,h⟩:=h;subst e1;cases r with
 |cons r rr=>
  rw[hs];refine assignInOrder_cons (thn (h1 j1 s σ H _ _ _ I r h) λ_ s1 ⟨σ1,H1,I1,q1⟩=>?_);exact h2 j1 s1 σ1 H1 _ _ Q I1 rr q1
inductive gTup_(K:PySem.W.Frag)(n:Nat)(t:TGs)(v:V)(σ:St)(H:Hp)(Q:St->Hp->Prop):Prop
 |mk(a:_)(xs:_)(e0:v=.ref a)(e1:SqT K H a xs)(e2:xs.length=n)(e3:t xs σ H Q)
def gTup(K:PySem.W.Frag)(n:Nat)(t:TGs):TG:=λv σ H Q=>gTup_ K n t v σ H Q
theorem qm0{es:List Expr}{k:Nat}{t:TGs}{n:Nat}(hc:X.calm=true)(h:PGs X es t)
  (hn:(assignEach es X.env).length=n:=by rfl) (kR:(assignEach es X.env).findIdx? (·.1)=none:=by rfl):PG X (.Tuple es k pos) (gTup X.K n t):=by
 intro j1 s σ H v u Q I r hw;obtain⟨a,xs,e1,hq,hl,hw⟩:=hw;subst e1;cases r;obtain⟨its,rv,ht,hz⟩:=I.tuple hq;refine assign_Tuple_tuple (I.ok.hd hc) ht (by simp[hn,<- hl,rv.length]) kR λh' hx=>?_;have I1:Inv X j1 σ H { s with heap:=h' }:=I.kept (t':=s.toks) λb o e=>hx b o (ZB (Zr e)) e;exact h j1 _ σ H xs _ Q I1 (by simpa using rv) hw
def gSub(to ti:TE)(t:TSet):TG:=λv σ H Q=>to σ H λo H1=>ti σ H1 λi H2=>t o i v H2 λH3=>Q σ H3
theorem qT9{o i:Expr}{to ti:TE}{t:TSet}(ho:PE X o to)(hi:PE X i ti)(hs:PSet X t)
  (ha:∀v,assign (.Subscript o i pos) X.env v=(do
   let ov <- holding [v] (eval o X.env)
   let iv <- holding [v,ov] (eval i X.env)
   standAt pos
   holding [v,ov,iv] (setItem ov iv v)
   release [v,ov,iv] []):=by intro _;rfl):PG X (.Subscript o i pos) (gSub to ti t):=by
 intro j1 s σ H v u Q I r h;rw[ha];refine Za (Z3 (thn (ho j1 s σ H _ I h) λov s1 ⟨x,H1,I1,r1,q1⟩=>?_));refine Za (Z3 (thn (hi j1 s1 σ H1 _ I1 q1) λiv s2 ⟨y,H2,I2,r2,q2⟩=>?_));refine Za (wpAny_standAt (Za (Z3 (thn (hs j1 s2 σ H2 x y v ov iv u _ I2 r1 r2 r q2) λ_ s3 ⟨H3,I3,q3⟩=>?_))));exact wpAny_release ⟨σ,H3,I3,q3⟩
def tAsg(te:TE)(g:TG):TS:=λD σ H=>te σ H λx H1=>g x σ H1 D.nx
theorem qr1{tg e:Expr}{te:TE}{g:TG}(he:PE X e te)(hg:PG X tg g)(hs:swapsWithSole [tg] e pos.line X.env=pure false:=by rfl)(hw:swappedStores [tg] e X.env=pure none:=by rfl)
  (h1:(assignEach [tg] X.env).map (·.2)=[assign tg X.env]:=by rfl):PS X (.Assign [tg] e pos) (tAsg te g):=by
 intro j1 s σ H D I h;refine wpAny_Assign_stores (thn (he j1 s σ H _ I h) λv s1 ⟨x,H1,I1,r1,q1⟩=>?_) hs hw;rw[h1];exact thn (hg j1 s1 σ H1 x v _ I1 r1 q1) λ_ s2 q=>q
theorem xn7{i:Nat}{x:Str}{e:Expr}{te:TE}{pos':Pos}(hN:X.N.Nodup)(hi:X.N[i]?=some x)(hx:Loc X.env.scope x)(he:PE X e te)(hs:swapsWith e (some (.Name x pos')) pos.line X.env=pure false:=by rfl)(hf:X.fn x=true\/X.env.scope.names.lookup x=some .local:=by first|exact .inl rfl|exact .inr rfl|assumption) :
  PS X (.Assign [.Name x pos'] e pos) (tAsg te (qf2 i)):=by
 intro j1 s σ H D I h;refine wpAny_Assign_Name (thn (he j1 s σ H _ I h) λv s1 ⟨y,H1,I1,r1,q1⟩=>?_) hs;exact qy8 I1 hN hi hx r1 (λs2 I2=>⟨_,H1,I2,q1⟩) hf
end
section
variable{X:Cx}{pos:Pos}
end
structure It where
 go:Nat->Hp->Prop
 yld:Nat->Hp->V->Hp->Prop
 stop:Nat->Hp->Prop
def FpOk(X:Cx)(j1:List (Addr×Obj))(H:Hp)(b:Addr):Prop:=
 H b=none/\b≠X.env.locals/\b∉X.fs/\(b∈X.ex\/X.s₀.heap.objs.size<=b)/\(∀x c,X.env.cells.lookup x=some c->c≠b)/\∀p∈X.pn++j1,p.1≠b
theorem Inv.fpOk{X:Cx}{j1:List (Addr×Obj)}{σ:St}{H H':Hp}{s:Shared}{b:Addr}(I:Inv X j1 σ H s)(hb:s.heap.objs.size<=b)(hn:H' b=none):FpOk X j1 H' b:=by
 refine⟨hn,WE (ZJ I.lt hb),I.nofs hb,.inr (ZH I.sz hb),λx c e z=>?_,λp hp z=>?_⟩
 ·obtain⟨v,q⟩:=I.cell x c e;exact absurd (ZJ q.lt (by rw[z];exact hb)) (Ym _)
 ·exact absurd (ZJ (Zr (I.pin p hp).1) (by rw[z];exact hb)) (Ym _)
structure Turn(P:Program)(w:World)(K:PySem.W.Frag)(tg:Expr)(J:It)(fp:List Addr)(it:Addr)(tn:Nat->Heap->Prop):Prop where
 mem:it∈fp
 obj:∀i h,tn i h->∀b∈fp,∃o,h.get? b=some o/\∀v,o.data≠.cell v
 keep:∀i h h',tn i h->(∀b∈fp,∀o,h.get? b=some o->h'.get? b=some o)->tn i h'
 item:∀(X:Cx),X.prog=P->X.w=w->X.K=K->X.calm=true->∀(i:Nat)(j1:List (Addr×Obj))(s:Shared)(σ:St)(H:Hp)(E:Value->Shared->Prop),Inv X j1 σ H s->(∀b∈fp,FpOk X j1 H b)->tn i s.heap->J.go i H ->
  wpAny (model P w) X.A (pyNext (.ref it)) (λr s1=>∃u,r=some u /\
   wpAny (model P w) X.A (letOwnedTupleGo tg (.ref it) u) (λ_ s2=>∃x H',Inv X j1 σ H' s2/\RelV x u/\J.yld i H x H'/\tn (i+1) s2.heap/\∀b∈fp,H' b=none) E s1) E s
 done:∀(X:Cx),X.prog=P->X.w=w->X.K=K->X.calm=true->∀(i:Nat)(j1:List (Addr×Obj))(s:Shared)(σ:St)(H:Hp)(E:Value->Shared->Prop),Inv X j1 σ H s->(∀b∈fp,FpOk X j1 H b)->tn i s.heap->J.stop i H ->
  wpAny (model P w) X.A (pyNext (.ref it)) (λr s1=>r=none/\Inv X j1 σ H s1) E s
 self:∀(A:Around)(i:Nat)(s:Shared)(Q:Value->Shared->Prop)(E:Value->Shared->Prop),tn i s.heap->Q (.ref it) s->wpAny (model P w) A (pyIter (.ref it)) Q E s
abbrev TI:=St->Hp->(It->Hp->Prop)->Prop
def PIE(X:Cx)(j1:List (Addr×Obj))(σ:St)(tg:Expr)(R:It->Hp->Prop)(itv:Value)(s2:Shared):Prop:=
 ∃(it:Addr)(fp:List Addr)(tn:Nat->Heap->Prop)(J:It)(H':Hp),itv=.ref it/\Inv X j1 σ H' s2/\Turn X.prog X.w X.K tg J fp it tn/\tn 0 s2.heap/\(∀b∈fp,FpOk X j1 H' b)/\R J H'
def PI(X:Cx)(tg iter:Expr)(wi:TI):Prop:=
 ∀(j1:List (Addr×Obj))(s:Shared)(σ:St)(H:Hp)(R:It->Hp->Prop),Inv X j1 σ H s->wi σ H R ->
  wpAny (model X.prog X.w) X.A (eval iter X.env) (λv s1=>wpAny (model X.prog X.w) X.A (pyIter v) (PIE X j1 σ tg R) X.xe s1) X.xe s
theorem q64{M:Model}{A:Around}{E:Value->Shared->Prop}{s:Shared}{tg:Expr}{it:Addr}{u:Value}{o:Obj}{n:String}{vs:Array Value}{Q:Unit->Shared->Prop}(ho:s.heap.get? it=some o)(hc:o.cls=.type n)(hd:o.data=.fields vs)
  (hn:["enumerate", "zip", "dict_itemiterator", "dict_reverseitemiterator", "odict_iterator", "itertools.zip_longest", "itertools.pairwise"].contains n=false) (hQ:Q () s):wpAny M A (letOwnedTupleGo tg (.ref it) u) Q E s:=by
 unfold letOwnedTupleGo;cases tg<;>first
  |exact Zb hQ
  |(cases u<;>first
    |exact Zb hQ
    |(refine Za (wpAny_load ho ?_)
      rw[hc,hd];show wpAny M A (if (["enumerate", "zip", "dict_itemiterator", "dict_reverseitemiterator", "odict_iterator", "itertools.zip_longest", "itertools.pairwise"].contains n&&vs[0]?==some (rawInt _))=true then _ else _) Q E s;rw[Zh (by intro h;rw[hn,Wd] at h;cases h)];exact Zb hQ))
def Itl(K:PySem.W.Frag)(a:Addr):It:=
 ⟨λi H=>∃xs x,SqL K H a xs/\xs[i]?=some x,λi H x H'=>H'=H/\∀xs,SqL K H a xs->xs[i]?=some x,λi H=>∃xs,SqL K H a xs/\xs.length<=i⟩
def Itt(K:PySem.W.Frag)(a:Addr):It:=
 ⟨λi H=>∃xs x,SqT K H a xs/\xs[i]?=some x,λi H x H'=>H'=H/\∀xs,SqT K H a xs->xs[i]?=some x,λi H=>∃xs,SqT K H a xs/\xs.length<=i⟩
def Itr(lo:Int)(n:Nat):It:=⟨λi _=>i<n,λi H x H'=>H'=H/\x=.int (lo+i),λi _=>n<=i⟩
theorem qU0{P:Program}{w:World}{K:PySem.W.Frag}{tg:Expr}(a it:Addr):Turn P w K tg (Itl K a) [it] it (λi h=>h.IsListIter it a i) where
 mem:=by simp
 obj:=λi h st b hb=>by
  have e:b=it:=by simpa using hb
  subst e;obtain⟨o,e,c,d⟩:=st;exact⟨o,e,λv z=>by rw[d] at z;cases z⟩
 keep:=λi h h' st k=>st.at λo e=>k it (by simp) o e
 item:=by
  intro X hP hw hK hc i j1 s σ H E I hf st hg;subst hP hw hK;obtain⟨xs,x,hq,hx⟩:=hg;obtain⟨its,rv,p,hz⟩:=I.list hq;obtain⟨u,hu,ru⟩:=rv.get hx;obtain⟨f0,f1,f2,f3,f4,f5⟩:=hf it (by simp);refine wpAny_pyNext_list_item st p.isList (x:=u) (by simpa using hu) λh' st' sb=>?_;have I1:Inv X j1 σ H { s with heap:=h' }:=I.turned (t':=s.toks) (λb o hb e=>(sb.2 b hb).trans e) f0 f1 f3 f4 f5;obtain⟨o,e,c,d⟩:=id st';exact⟨u,rfl,q64 (s:={ s with heap:=h' }) e c d (by decide) ⟨x,H,I1,ru,⟨rfl,λys hy=>by rw[I.list_inj hy hq];exact hx⟩,st',λb hb=>(hf b hb).1⟩⟩
 done:=by
  intro X hP hw hK hc i j1 s σ H E I hf st hg;subst hP hw hK;obtain⟨xs,hq,hx⟩:=hg;obtain⟨its,rv,p,hz⟩:=I.list hq;obtain⟨f0,f1,f2,f3,f4,f5⟩:=hf it (by simp);have hl:=rv.length;exact wpAny_pyNext_list_end (I.ok.hd hc) st p.isList (by simp;lia) λh' eb=>⟨rfl,I.turned (t':=s.toks) (λb o hb e=>eb b o hb e) f0 f1 f3 f4 f5⟩
 self:=λ_ _ _ _ _ st h=>wpAny_pyIter_listiter st h
theorem qP5{P:Program}{w:World}{K:PySem.W.Frag}{tg:Expr}(a it:Addr):Turn P w K tg (Itt K a) [it] it (λi h=>h.IsTupleIter it a i) where
 mem:=by simp
 obj:=λi h st b hb=>by
  have e:b=it:=by simpa using hb
  subst e;obtain⟨o,e,c,d⟩:=st;exact⟨o,e,λv z=>by rw[d] at z;cases z⟩
 keep:=λi h h' st k=>st.at λo e=>k it (by simp) o e
 item:=by
  intro X hP hw hK hc i j1 s σ H E I hf st hg;subst hP hw hK;obtain⟨xs,x,hq,hx⟩:=hg;obtain⟨its,rv,p,hz⟩:=I.tuple hq;obtain⟨u,hu,ru⟩:=rv.get hx;obtain⟨f0,f1,f2,f3,f4,f5⟩:=hf it (by simp);refine wpAny_pyNext_tuple_item st (show s.heap.IsTuple a its.toArray from p) (x:=u) (by simpa using hu) λh' st' sb=>?_;have I1:Inv X j1 σ H { s with heap:=h' }:=I.turned (t':=s.toks) (λb o hb e=>(sb.2 b hb).trans e) f0 f1 f3 f4 f5;obtain⟨o,e,c,d⟩:=id st';exact⟨u,rfl,q64 (s:={ s with heap:=h' }) e c d (by decide) ⟨x,H,I1,ru,⟨rfl,λys hy=>by rw[I.tuple_inj hy hq];exact hx⟩,st',λb hb=>(hf b hb).1⟩⟩
 done:=by
  intro X hP hw hK hc i j1 s σ H E I hf st hg;subst hP hw hK;obtain⟨xs,hq,hx⟩:=hg;obtain⟨its,rv,p,hz⟩:=I.tuple hq;obtain⟨f0,f1,f2,f3,f4,f5⟩:=hf it (by simp);have hl:=rv.length;exact wpAny_pyNext_tuple_end (I.ok.hd hc) st (show s.heap.IsTuple a its.toArray from p) (by simp;lia) λh' eb=>⟨rfl,I.turned (t':=s.toks) (λb o hb e=>eb b o hb e) f0 f1 f3 f4 f5⟩
 self:=λ_ _ _ _ _ st h=>wpAny_pyIter_tupleiter st h
theorem qP6{P:Program}{w:World}{K:PySem.W.Frag}{tg:Expr}(it:Addr)(lo:Int)(n:Nat):Turn P w K tg (Itr lo n) [it] it (λi h=>IsRangeIter h it (lo+(i:Nat)*1) ((n:Int)-(i:Nat)) 1) where
 mem:=by simp
 obj:=λi h st b hb=>by
  have e:b=it:=by simpa using hb
  subst e;exact⟨_,st,λv z=>by
   have z':Data.fields _=Data.cell v:=z;cases z'⟩
 keep:=λi h h' st k=>k it (by simp) _ st
 item:=by
  intro X hP hw hK hc i j1 s σ H E I hf st hg;subst hP hw hK;obtain⟨f0,f1,f2,f3,f4,f5⟩:=hf it (by simp);have W:=Walks.range (prog:=X.prog) (w:=X.w) (I.ok.hd hc) it lo 1 n;refine W.item i s _ _ hg st λv h' tk hv st' kk=>?_;obtain⟨t,rfl⟩:=hv;have I1:Inv X j1 σ H { s with heap:=h',toks:=tk }:=I.turned (λb o hb e=>kk b o (by simpa using hb) e) f0 f1 f3 f4 f5;refine⟨_,rfl,q64 (s:={ s with heap:=h',toks:=tk }) (n:= "range_iterator") st' rfl rfl (by decide) ⟨.int (lo+i),H,I1,⟨t,?_⟩,⟨rfl,rfl⟩,st',λb hb=>(hf b hb).1⟩⟩;rw[Int.mul_one]
 done:=by
  intro X hP hw hK hc i j1 s σ H E I hf st hg;subst hP hw hK;obtain⟨f0,f1,f2,f3,f4,f5⟩:=hf it (by simp);exact wpAny_pyNext_range_end (I.ok.hd hc) st (by have:n<=i:=hg;lia) λh' eb=>⟨rfl,I.turned (t':=s.toks) (λb o hb e=>eb b o hb e) f0 f1 f3 f4 f5⟩
 self:=λ_ _ _ _ _ st h=>wpAny_pyIter_rangeiter st h
section
variable{X:Cx}{tg:Expr}
inductive iList_(K:PySem.W.Frag)(R:It->Hp->Prop)(x:V)(H1:Hp):Prop
 |mk(a:_)(e0:x=.ref a)(e1:(∃xs,SqL K H1 a xs))(e2:R (Itl K a) H1)
def xv1(K:PySem.W.Frag)(tl:TE):TI:=λσ H R=>tl σ H λx H1=>iList_ K R x H1
inductive iTup_(K:PySem.W.Frag)(R:It->Hp->Prop)(x:V)(H1:Hp):Prop
 |mk(a:_)(e0:x=.ref a)(e1:(∃xs,SqT K H1 a xs))(e2:R (Itt K a) H1)
def iTup(K:PySem.W.Frag)(tl:TE):TI:=λσ H R=>tl σ H λx H1=>iTup_ K R x H1
theorem qo9{l:Expr}{tl:TE}(hl:PE X l tl):PI X tg l (xv1 X.K tl):=by
 intro j1 s σ H R I h;refine thn (hl j1 s σ H _ I h) λv s1 ⟨x,H1,I1,r1,q1⟩=>?_;obtain⟨a,e,⟨xs,hq⟩,q⟩:=q1;subst e;cases r1;obtain⟨its,rv,p,hz⟩:=I1.list hq;refine Xs p.isList ?_;refine⟨s1.heap.objs.size,[s1.heap.objs.size],_,_,H1,rfl,I1.kept (t':=s1.toks) λb o e=>Zc _ e,qU0 a _,⟨_,Zj _ rfl,rfl,rfl⟩,λb hb=>?_,q⟩;have e:b=s1.heap.objs.size:=by simpa using hb
 subst e;exact I1.fpOk (Zf _) (I1.hok.fresh (Zf _))
theorem qt3{l:Expr}{tl:TE}(hl:PE X l tl):PI X tg l (iTup X.K tl):=by
 intro j1 s σ H R I h;refine thn (hl j1 s σ H _ I h) λv s1 ⟨x,H1,I1,r1,q1⟩=>?_;obtain⟨a,e,⟨xs,hq⟩,q⟩:=q1;subst e;cases r1;obtain⟨its,rv,p,hz⟩:=I1.tuple hq;refine XZ (show s1.heap.IsTuple a its.toArray from p) ?_;refine⟨s1.heap.objs.size,[s1.heap.objs.size],_,_,H1,rfl,I1.kept (t':=s1.toks) λb o e=>Zc _ e,qP5 a _,⟨_,Zj _ rfl,rfl,rfl⟩,λb hb=>?_,q⟩;have e:b=s1.heap.objs.size:=by simpa using hb
 subst e;exact I1.fpOk (Zf _) (I1.hok.fresh (Zf _))
theorem range_it{j1:List (Addr×Obj)}{σ:St}{H:Hp}{s:Shared}{R:It->Hp->Prop}{E:Value->Shared->Prop}{lo hi:Int}{t u v:Tok}{tk:Nat}(I:Inv X j1 σ H s)(h1:-(2^62)<=lo)(h2:lo<2^62)(h3:-(2^62)<=hi)(h4:hi<2^62)
  (q:R (Itr lo (hi-lo).toNat) H):wpAny (model X.prog X.w) X.A (pyIter (.ref s.heap.objs.size)) (PIE X j1 σ tg R) E { s with heap:=s.heap.push { cls:=.type "range",data:=.fields #[.int lo t,.int hi u,.int 1 v] },toks:=tk }:=by
 refine wpAny_pyIter_range (IsRange.new ..) (small_one h1 h2 h3 h4) ?_;have I1:Inv X j1 σ H { s with heap:=s.heap.push { cls:=.type "range",data:=.fields #[.int lo t,.int hi u,.int 1 v] },toks:=tk }:=I.kept λb o e=>Zc _ e;refine⟨(s.heap.push { cls:=.type "range",data:=.fields #[.int lo t,.int hi u,.int 1 v] }).objs.size,[(s.heap.push { cls:=.type "range",data:=.fields #[.int lo t,.int hi u,.int 1 v] }).objs.size],_,_,H,rfl,
  I1.kept (t':=tk) λb o e=>Zc _ e,qP6 _ lo (hi-lo).toNat,?_,λb hb=>?_,q⟩
 ·have e1:lo+((0:Nat):Int)*1=lo:=by simp
  have e2:(((hi-lo).toNat:Nat):Int)-((0:Nat):Int)=Builtin.Range.rangeSize lo hi 1:=by rw[rangeSize_one];split<;>lia
  show IsRangeIter _ _ (lo+((0:Nat):Int)*1) ((((hi-lo).toNat:Nat):Int)-((0:Nat):Int)) 1;rw[e1,e2];exact Zj _ rfl
 ·have e:b=(s.heap.push { cls:=.type "range",data:=.fields #[.int lo t,.int hi u,.int 1 v] }).objs.size:=by simpa using hb
  subst e;exact I1.fpOk (Zf _) (I1.hok.fresh (Zf _))
inductive iRng1_(R:It->Hp->Prop)(vs:List V)(H1:Hp):Prop
 |mk(j:Int)(e0:vs=[.int j])(e1:-(2^62)<=j)(e2:j<2^62)(e3:R (Itr 0 j.toNat) H1)
def xv2(ta:TA):TI:=λσ H R=>ta σ H λvs H1=>iRng1_ R vs H1
inductive iRng2_(R:It->Hp->Prop)(vs:List V)(H1:Hp):Prop
 |mk(i:Int)(j:Int)(e0:vs=[.int i,.int j])(e1:(-(2^62)<=i/\i<2^62/\-(2^62)<=j/\j<2^62))(e2:R (Itr i (j-i).toNat) H1)
def xv3(ta:TA):TI:=λσ H R=>ta σ H λvs H1=>iRng2_ R vs H1
theorem qi5{a:Expr}{ta:TA}{p pos:Pos}(hg:Gl X "range")(hm:X.mg "range" = none)(ha:PA X [a] ta)(hs:starEach [a] X.env=[(false,eval a X.env)]:=by rfl):PI X tg (.Call (.Name "range" p) [a] [] pos) (xv2 ta):=by
 intro j1 s σ H R I h;refine Call_ (qx5 I hg hm boot_range (YM (thn (ha pos j1 s σ H _ I h) λus s1 ⟨vs,H1,I1,r1,q1⟩=>?_) hs rfl));obtain⟨j,e,q1,q2,q⟩:=q1;subst e;cases r1 with
 |cons r rr=>
  cases rr;obtain⟨t,rfl⟩:=r;exact call_range_1 (range_it I1 (by lia) (by lia) q1 q2 (by simpa using q))
theorem qU1{a b:Expr}{ta:TA}{p pos:Pos}(hg:Gl X "range")(hm:X.mg "range" = none)(ha:PA X [a,b] ta)(hs:starEach [a,b] X.env=[(false,eval a X.env),(false,eval b X.env)]:=by rfl)(kY:starEach [b] X.env=[(false,eval b X.env)]:=by rfl) :
  PI X tg (.Call (.Name "range" p) [a,b] [] pos) (xv3 ta):=by
 intro j1 s σ H R I h;refine Call_ (qx5 I hg hm boot_range (YM (thn (ha pos j1 s σ H _ I h) λus s1 ⟨vs,H1,I1,r1,q1⟩=>?_) (by rw[hs,kY]) (by rw[kY];rfl)));obtain⟨i,j,e,⟨q1,q2,q3,q4⟩,q⟩:=q1;subst e;cases r1 with
 |cons r rr=>
  cases rr with
  |cons r' rr=>
   cases rr;obtain⟨t,rfl⟩:=r;obtain⟨t',rfl⟩:=r';exact call_range_2 (range_it I1 q1 q2 q3 q4 q)
def tFor(wi:TI)(g:TG)(tb:TS):TS:=λD σ H=>wi σ H λJ H1=>∃W:Nat->Nat->St->Hp->Prop,(∃m,W 0 m σ H1)/\∀i m σ H,W i m σ H ->
 (J.stop i H/\D.nx σ H)\/(J.go i H/\∃N:St->Hp->Prop,(∀σ' H',N σ' H'->∃m',m'<m/\W (i+1) m' σ' H')/\∀x H',J.yld i H x H'->g x σ H' λσ2 H2=>tb { D with nx:=N,ct:=N,bk:=D.nx } σ2 H2)
def qC6(fp:List Addr)(h:Heap):List (Addr×Obj):=fp.filterMap λb=>(h.get? b).map λo=>(b,o)
theorem qj8{fp:List Addr}{h:Heap}{b:Addr}{o:Obj}(hb:b∈fp)(e:h.get? b=some o):(b,o)∈qC6 fp h:=WI.mpr ⟨b,hb,by rw[e];rfl⟩
theorem qU2{fp:List Addr}{h:Heap}{p:Addr×Obj}(hp:p∈qC6 fp h):p.1∈fp/\h.get? p.1=some p.2:=by
 obtain⟨b,hb,e⟩:=WI.mp hp;cases q:h.get? b with
 |none=>rw[q] at e;cases e
 |some o=>
  rw[q] at e;have e':(b,o)=p:=ZC e;subst e';exact⟨hb,q⟩
theorem Inv.pinned{j1:List (Addr×Obj)}{σ:St}{H:Hp}{s:Shared}{fp:List Addr}(I:Inv X j1 σ H s)(hf:∀b∈fp,FpOk X j1 H b)(ho:∀b∈fp,∃o,s.heap.get? b=some o/\∀v,o.data≠.cell v):Inv X (j1++qC6 fp s.heap) σ H s:=
 I.pins_of λp hp=>(Yi.mp hp).elim (λz=>I.pin p (ZN _ z)) λz=>by
  obtain⟨hb,e⟩:=qU2 z;obtain⟨f0,f1,f2,_⟩:=hf p.1 hb;obtain⟨o,e',d⟩:=ho p.1 hb;rw[e] at e';cases e';exact⟨e,f0,f1,f2,d⟩
theorem Inv.unpinned{j1 pl:List (Addr×Obj)}{σ:St}{H:Hp}{s:Shared}(I:Inv X (j1++pl) σ H s):Inv X j1 σ H s:=I.pins_of λp hp=>I.pin p (ZN _ (Xz _ hp))
theorem qh0{iter:Expr}{body:List Stmt}{wi:TI}{g:TG}{tb:TS}{pos:Pos}(hp:PassesOwn (model X.prog X.w) X.A X.env X.xe)(hc:X.calm=true)(hi:PI X tg iter wi)(hg:PG X tg g)(hb:PSs X body tb)
  (hs:∀x,foldedSetIterable iter X.env x=pure x:=by intro _;rfl):PS X (.For tg iter body [] pos) (tFor wi g tb):=by
 intro j1 s σ H D I h;refine wpAny_For (thn (hi j1 s σ H _ I h) λv s1 h1=>thn h1 λitv s2 h2=>?_) hs;obtain⟨it,fp,tn,J,H2,e,I2,T,st2,f2,W,⟨m0,w0⟩,turn⟩:=h2;subst e;have stat:∀{H':Hp},(∀b∈fp,H' b=none)->∀b∈fp,FpOk X j1 H' b:=λhn b hb=>⟨hn b hb,(f2 b hb).2⟩;refine codeAny_forLoop_any (λn s'=>∃i σ' H',Inv X j1 σ' H' s'/\tn i s'.heap/\(∀b∈fp,H' b=none)/\W i n σ' H') ?_ m0 ⟨0,σ,H2,I2,st2,λb hb=>(f2 b hb).1,w0⟩;rintro n s3 ⟨i,σ3,H3,I3,st3,fr3,w3⟩;rcases turn i n σ3 H3 w3 with ⟨stop,qn⟩|⟨go,N,hN,step⟩
 ·refine XT hp (thn (T.done X rfl rfl rfl hc i j1 s3 σ3 H3 X.xe I3 (stat fr3) st3 stop) λr s4 ⟨hr,I4⟩=>?_);subst hr;exact wpAny_execs_nil ⟨σ3,H3,I4,qn⟩
 ·refine XT hp (thn (T.item X rfl rfl rfl hc i j1 s3 σ3 H3 X.xe I3 (stat fr3) st3 go) λr s4 ⟨u,hr,h4⟩=>?_);subst hr;refine XT hp (thn h4 λ_ s5 ⟨x,H5,I5,r5,y5,st5,fr5⟩=>?_);have I5':=I5.pinned (stat fr5) (T.obj _ _ st5);refine XT hp (thn (hg _ s5 σ3 H5 x u _ I5' r5 (step x H5 y5)) λ_ s6 ⟨σ6,H6,I6,q6⟩=>?_);refine XT hp (thn (hb _ s6 σ6 H6 _ I6 q6) λf s7 q7=>?_);have again:∀{σ7:St}{H7:Hp},Inv X (j1++qC6 fp s5.heap) σ7 H7 s7->N σ7 H7->∃m,m<n/\∃i σ' H',Inv X j1 σ' H' s7/\tn i s7.heap/\(∀b∈fp,H' b=none)/\W i m σ' H':=λ{σ7 H7} I7 n7=>by
   obtain⟨m',hm,w7⟩:=hN σ7 H7 n7;refine⟨m',hm,i+1,σ7,H7,I7.unpinned,T.keep _ _ _ st5 λb hb o e=>(I7.pin (b,o) (ZN _ (ZN _ (qj8 hb e)))).1,λb hb=>?_,w7⟩;obtain⟨o,e,d⟩:=T.obj _ _ st5 b hb;exact (I7.pin (b,o) (ZN _ (ZN _ (qj8 hb e)))).2.1
  cases f with
  |next=>obtain⟨σ7,H7,I7,n7⟩:=q7;exact again I7 n7
  |cont=>obtain⟨σ7,H7,I7,n7⟩:=q7;exact again I7 n7
  |brk=>obtain⟨σ7,H7,I7,q7⟩:=q7;exact⟨σ7,H7,I7.unpinned,q7⟩
  |ret v=>obtain⟨x7,σ7,H7,I7,r7,q7⟩:=q7;exact⟨x7,σ7,H7,I7.unpinned,r7,q7⟩
end
theorem qz0{K:PySem.W.Frag}{a:Addr}{xs:List V}{g:TG}{tb:TS}{D:Ends}{σ:St}{H:Hp}(Pv:Nat->St->Hp->Prop)(h0:Pv 0 σ H)(hl:∀i σ H,i<=xs.length->Pv i σ H->SqL K H a xs)
  (hs:∀i x σ H,xs[i]?=some x->Pv i σ H->g x σ H λσ2 H2=>tb { D with nx:=Pv (i+1),ct:=Pv (i+1),bk:=D.nx } σ2 H2) (hd:∀σ H,Pv xs.length σ H->D.nx σ H) :
  ∃W:Nat->Nat->St->Hp->Prop,(∃m,W 0 m σ H)/\∀i m σ H,W i m σ H ->
   ((Itl K a).stop i H/\D.nx σ H)\/((Itl K a).go i H/\∃N:St->Hp->Prop,(∀σ' H',N σ' H'->∃m',m'<m/\W (i+1) m' σ' H')/\∀x H',(Itl K a).yld i H x H'->g x σ H' λσ2 H2=>tb { D with nx:=N,ct:=N,bk:=D.nx } σ2 H2):=by
 refine⟨λi m σ H=>m=xs.length-i/\i<=xs.length/\Pv i σ H,⟨xs.length,by simp,Zx _,h0⟩,?_⟩;rintro i m σ H ⟨rfl,hi,p⟩;have q:=hl i σ H hi p;by_cases j5:i<xs.length
 ·refine .inr ⟨⟨xs,xs[i],q,by simp[j5]⟩,Pv (i+1),λσ' H' p'=>⟨xs.length-(i+1),by lia,rfl,j5,p'⟩,λx H' y=>?_⟩;obtain⟨e,y⟩:=y;subst e;exact hs i x σ _ (y xs q) p
 ·have e:i=xs.length:=by lia
  subst e;exact .inl ⟨⟨xs,q,Zf _⟩,hd σ H p⟩
theorem qz1{K:PySem.W.Frag}{a:Addr}{xs:List V}{g:TG}{tb:TS}{D:Ends}{σ:St}{H:Hp}(Pv:Nat->St->Hp->Prop)(h0:Pv 0 σ H)(hl:∀i σ H,i<=xs.length->Pv i σ H->SqT K H a xs)
  (hs:∀i x σ H,xs[i]?=some x->Pv i σ H->g x σ H λσ2 H2=>tb { D with nx:=Pv (i+1),ct:=Pv (i+1),bk:=D.nx } σ2 H2) (hd:∀σ H,Pv xs.length σ H->D.nx σ H) :
  ∃W:Nat->Nat->St->Hp->Prop,(∃m,W 0 m σ H)/\∀i m σ H,W i m σ H ->
   ((Itt K a).stop i H/\D.nx σ H)\/((Itt K a).go i H/\∃N:St->Hp->Prop,(∀σ' H',N σ' H'->∃m',m'<m/\W (i+1) m' σ' H')/\∀x H',(Itt K a).yld i H x H'->g x σ H' λσ2 H2=>tb { D with nx:=N,ct:=N,bk:=D.nx } σ2 H2):=by
 refine⟨λi m σ H=>m=xs.length-i/\i<=xs.length/\Pv i σ H,⟨xs.length,by simp,Zx _,h0⟩,?_⟩;rintro i m σ H ⟨rfl,hi,p⟩;have q:=hl i σ H hi p;by_cases j5:i<xs.length
 ·refine .inr ⟨⟨xs,xs[i],q,by simp[j5]⟩,Pv (i+1),λσ' H' p'=>⟨xs.length-(i+1),by lia,rfl,j5,p'⟩,λx H' y=>?_⟩;obtain⟨e,y⟩:=y;subst e;exact hs i x σ _ (y xs q) p
 ·have e:i=xs.length:=by lia
  subst e;exact .inl ⟨⟨xs,q,Zf _⟩,hd σ H p⟩
theorem qm1{lo:Int}{n:Nat}{g:TG}{tb:TS}{D:Ends}{σ:St}{H:Hp}(Pv:Nat->St->Hp->Prop)(h0:Pv 0 σ H)
  (hs:∀i σ H,i<n->Pv i σ H->g (.int (lo+i)) σ H λσ2 H2=>tb { D with nx:=Pv (i+1),ct:=Pv (i+1),bk:=D.nx } σ2 H2) (hd:∀σ H,Pv n σ H->D.nx σ H) :
  ∃W:Nat->Nat->St->Hp->Prop,(∃m,W 0 m σ H)/\∀i m σ H,W i m σ H ->
   ((Itr lo n).stop i H/\D.nx σ H)\/((Itr lo n).go i H/\∃N:St->Hp->Prop,(∀σ' H',N σ' H'->∃m',m'<m/\W (i+1) m' σ' H')/\∀x H',(Itr lo n).yld i H x H'->g x σ H' λσ2 H2=>tb { D with nx:=N,ct:=N,bk:=D.nx } σ2 H2):=by
 refine⟨λi m σ H=>m=n-i/\i<=n/\Pv i σ H,⟨n,by simp,Zx _,h0⟩,?_⟩;rintro i m σ H ⟨rfl,hi,p⟩;by_cases j5:i<n
 ·refine .inr ⟨j5,Pv (i+1),λσ' H' p'=>⟨n-(i+1),by lia,rfl,j5,p'⟩,λx H' y=>?_⟩;obtain⟨e,y⟩:=y;subst e y;exact hs i σ _ j5 p
 ·have e:i=n:=by lia
  subst e;exact .inl ⟨Zf _,hd σ H p⟩
abbrev R2:=V->V->Hp->VK->Prop
def OpR(X:Cx)(f:Value->Value->Sem Value)(r:R2):Prop:=
 ∀(j1:List (Addr×Obj))(s:Shared)(σ:St)(H:Hp)(x y:V)(v u:Value)(Q:VK),Inv X j1 σ H s->RelV x v->RelV y u->r x y H Q ->
  wpAny (model X.prog X.w) X.A (f v u) (EP X j1 σ Q) X.xe s
def UnR(X:Cx)(f:Value->Sem Value)(r:V->Hp->VK->Prop):Prop:=
 ∀(j1:List (Addr×Obj))(s:Shared)(σ:St)(H:Hp)(x:V)(v:Value)(Q:VK),Inv X j1 σ H s->RelV x v->r x H Q ->
  wpAny (model X.prog X.w) X.A (f v) (EP X j1 σ Q) X.xe s
def qg4(X:Cx)(f:Value)(r:List V->Hp->VK->Prop):Prop:=
 ∀(j1:List (Addr×Obj))(s:Shared)(σ:St)(H:Hp)(xs:List V)(us:List Value)(Q:VK),Inv X j1 σ H s->Vals xs us->r xs H Q ->
  wpAny (model X.prog X.w) X.A (call f us) (EP X j1 σ Q) X.xe s
def tOp(r:R2)(ta tb:TE):TE:=λσ H Q=>ta σ H λx H1=>tb σ H1 λy H2=>r x y H2 Q
def tUn(r:V->Hp->VK->Prop)(ta:TE):TE:=λσ H Q=>ta σ H λx H1=>r x H1 Q
inductive rI_(C:Int->Int->Prop)(g:Int->Int->V)(x y:V)(H:Hp)(Q:VK):Prop
 |mk(i:_)(j:_)(e0:x=.int i)(e1:y=.int j)(e2:C i j)(e3:Q (g i j) H)
def rI(C:Int->Int->Prop)(g:Int->Int->V):R2:=λx y H Q=>rI_ C g x y H Q
inductive rI0_(g:Int->Int->V)(x y:V)(H:Hp)(Q:VK):Prop
 |mk(i:_)(j:_)(e0:x=.int i)(e1:y=.int j)(e2:Q (g i j) H)
def rI0(g:Int->Int->V):R2:=λx y H Q=>rI0_ g x y H Q
inductive rU_(g:Int->V)(x:V)(H:Hp)(Q:VK):Prop
 |mk(i:_)(e0:x=.int i)(e1:Q (g i) H)
def rU(g:Int->V):V->Hp->VK->Prop:=λx H Q=>rU_ g x H Q
section
variable{X:Cx}{a b c:Expr}{ta tb tc:TE}{pos:Pos}
theorem binT(ha:PE X a ta)(hb:PE X b tb){j1:List (Addr×Obj)}{s:Shared}{σ:St}{H:Hp}{R:V->V->Hp->Prop}(I:Inv X j1 σ H s)
  (h:ta σ H λx H1=>tb σ H1 λy H2=>R x y H2){Q:Value->Shared->Prop}{f:Value->Value->Sem Value}
  (hf:∀v u s2 x y H2,Inv X j1 σ H2 s2->RelV x v->RelV y u->R x y H2->wpAny (model X.prog X.w) X.A (f v u) Q X.xe s2) :
  wpAny (model X.prog X.w) X.A (eval a X.env) (λv s₁=>wpAny (model X.prog X.w) X.A (eval b X.env) (λu s₂=>wpAny (model X.prog X.w) X.A (f v u) Q X.xe s₂) X.xe s₁) X.xe s:=by
 refine thn (ha j1 s σ H _ I h) λv s1 ⟨x,H1,I1,r1,q1⟩=>?_;refine thn (hb j1 s1 σ H1 _ I1 q1) λu s2 ⟨y,H2,I2,r2,q2⟩=>?_;exact hf v u s2 x y H2 I2 r1 r2 q2
theorem qa6{op:Operator}{r:R2}(ho:OpR X (binaryOp op) r)(ha:PE X a ta)(hb:PE X b tb):PE X (.BinOp a op b pos) (tOp r ta tb):=by
 intro j1 s σ H Q I h;exact wpAny_BinOp (binT ha hb I h λv u s2 x y H2 I2 rx ry q=>ho j1 s2 σ H2 x y v u Q I2 rx ry q)
theorem xf6{op:UnaryOp}{r:V->Hp->VK->Prop}(ho:UnR X (unaryOp op) r)(ha:PE X a ta):PE X (.UnaryOp op a pos) (tUn r ta):=by
 intro j1 s σ H Q I h;exact UnaryOp_ (thn (ha j1 s σ H _ I h) λv s1 ⟨x,H1,I1,r1,q1⟩=>ho j1 s1 σ H1 x v Q I1 r1 q1)
theorem opI{f:Value->Value->Sem Value}{C:Int->Int->Prop}{g:Int->Int->Int}
  (rule:∀(i j:Int)(t u:Tok)(s:Shared)(Q:Value->Shared->Prop)(E:Value->Shared->Prop),C i j->Q (.int (g i j) s.toks) { s with toks:=s.toks+1 }->wpAny (model X.prog X.w) X.A (f (.int i t) (.int j u)) Q E s) :
  OpR X f (rI C λi j=>.int (g i j)):=by
 intro j1 s σ H x y v u Q I rx ry h;obtain⟨i,j,rfl,rfl,hc,q⟩:=h;obtain⟨t,rfl⟩:=rx;obtain⟨t',rfl⟩:=ry;exact rule i j t t' s _ _ hc ⟨.int (g i j),H,I.tok _,⟨_,rfl⟩,q⟩
theorem opI0{f:Value->Value->Sem Value}{g:Int->Int->Int}
  (rule:∀(i j:Int)(t u:Tok)(s:Shared)(Q:Value->Shared->Prop)(E:Value->Shared->Prop),Q (.int (g i j) s.toks) { s with toks:=s.toks+1 }->wpAny (model X.prog X.w) X.A (f (.int i t) (.int j u)) Q E s) :
  OpR X f (rI0 λi j=>.int (g i j)):=by
 intro j1 s σ H x y v u Q I rx ry h;obtain⟨i,j,rfl,rfl,q⟩:=h;obtain⟨t,rfl⟩:=rx;obtain⟨t',rfl⟩:=ry;exact rule i j t t' s _ _ ⟨.int (g i j),H,I.tok _,⟨_,rfl⟩,q⟩
theorem opB0{f:Value->Value->Sem Value}{g:Int->Int->Bool}
  (rule:∀(i j:Int)(t u:Tok)(s:Shared)(Q:Value->Shared->Prop)(E:Value->Shared->Prop),Q (.bool (g i j)) s->wpAny (model X.prog X.w) X.A (f (.int i t) (.int j u)) Q E s) :
  OpR X f (rI0 λi j=>.bl (g i j)):=by
 intro j1 s σ H x y v u Q I rx ry h;obtain⟨i,j,rfl,rfl,q⟩:=h;obtain⟨t,rfl⟩:=rx;obtain⟨t',rfl⟩:=ry;exact rule i j t t' s _ _ ⟨.bl (g i j),H,I,rfl,q⟩
def CDiv(i j:Int):Prop:=0<j/\j<1073741824
def CPow(i j:Int):Prop:=0<=j/\j<=1000000/\i.natAbs<2^64
def CMul(i j:Int):Prop:=(-(2^64)<i/\i<2^64)\/(-(2^64)<j/\j<2^64)
theorem CMul.ok{i j:Int}(h:CMul i j):IntMulOk i j:=by
 rcases h with ⟨h1,h2⟩|⟨h1,h2⟩
 ·exact .of_left (intBits_le_64 h1 h2)
 ·exact .of_right (intBits_le_64 h1 h2)
theorem qb5:OpR X (binaryOp .Add) (rI0 λi j=>.int (i+j)):=opI0 λ_ _ _ _ _ _ _ q=>add_int q
theorem qc9:OpR X (binaryOp .Sub) (rI0 λi j=>.int (i-j)):=opI0 λ_ _ _ _ _ _ _ q=>sub_int q
theorem qd6:OpR X (binaryOp .Mult) (rI CMul λi j=>.int (i*j)):=opI λ_ _ _ _ _ _ _ hc q=>mul_int q hc.ok
theorem qf8:OpR X (binaryOp .FloorDiv) (rI CDiv λi j=>.int (i/j)):=opI λi j _ _ _ _ _ hc q=>by
 have h1:(0:Int)<j:=hc.1;have h2:j<1073741824:=hc.2;exact floordiv_int (by lia) (by rw[Int.fdiv_eq_ediv_of_nonneg i (by lia)];exact q) (.inl (PyProof.noPylong_small (by lia)))
theorem qr2:OpR X (binaryOp .Mod) (rI (λ_ j=>0<j) λi j=>.int (i%j)):=opI λi j _ _ _ _ _ hc q=>by
 have h1:(0:Int)<j:=hc;exact mod_int' (by lia) (by rw[Int.fmod_eq_emod_of_nonneg i (by lia)];exact q)
theorem xn8:OpR X (binaryOp .Pow) (rI CPow λi j=>.int (i^j.toNat)):=opI λ_ _ _ _ _ _ _ hc q=>pow_int_small hc.1 hc.2.1 hc.2.2 q
theorem qK8:OpR X (binaryOp .LShift) (rI CPow λi j=>.int (i*2^j.toNat)):=opI λ_ _ _ _ _ _ _ hc q=>lshift_int_small hc.1 hc.2.1 hc.2.2 q
theorem unI{f:Value->Sem Value}{g:Int->Int}
  (rule:∀(i:Int)(t:Tok)(s:Shared)(Q:Value->Shared->Prop)(E:Value->Shared->Prop),Q (.int (g i) s.toks) { s with toks:=s.toks+1 }->wpAny (model X.prog X.w) X.A (f (.int i t)) Q E s) :
  UnR X f (rU λi=>.int (g i)):=by
 intro j1 s σ H x v Q I rx h;obtain⟨i,rfl,q⟩:=h;obtain⟨t,rfl⟩:=rx;exact rule i t s _ _ ⟨.int (g i),H,I.tok _,⟨_,rfl⟩,q⟩
theorem qU3:UnR X (unaryOp .USub) (rU λi=>.int (-i)):=unI λ_ _ _ _ _ q=>neg_int q
end
def scal:V->V->Bool
 |.non,.non=>true|.non,.int _=>true|.int _,.non=>true|.non,.bl _=>true|.bl _,.non=>true|.non,.str _=>true|.str _,.non=>true
 |.int _,.int _=>true|.bl _,.bl _=>true|.str _,.str _=>true|.byt _,.byt _=>true
 |.int _,.str _=>true|.str _,.int _=>true|.bl _,.str _=>true|.str _,.bl _=>true
 |_,_=>false
def rEq:R2:=λx y H Q=>scal x y=true/\Q (.bl (decide (x=y))) H
def rNe:R2:=λx y H Q=>scal x y=true/\Q (.bl (!decide (x=y))) H
theorem qU4{i j:Int}:decide (V.int i=V.int j)=(i==j):=by
 rw[ZO];simp
theorem xc5{i j:Bool}:decide (V.bl i=V.bl j)=(i==j):=by
 rw[ZO];simp
theorem qU5{i j:Str}:decide (V.str i=V.str j)=(i==j):=by
 rw[ZO];simp
theorem qU6{i j:Array UInt8}:decide (V.byt i=V.byt j)=(i.toList==j.toList):=by
 rw[ZO];cases i;cases j;simp
section
variable{X:Cx}{a b c:Expr}{ta tb tc:TE}{pos:Pos}
theorem qc8{j1:List (Addr×Obj)}{σ:St}{H:Hp}{s:Shared}{Q:VK}{k k':Bool}(I:Inv X j1 σ H s)(q:Q (.bl k) H)(e:k=k'):EP X j1 σ Q (.bool k') s:=by
 subst e;exact⟨.bl k,H,I,rfl,q⟩
theorem qP7:OpR X (compareOp .Eq) rEq:=by
 intro j1 s σ H x y v u Q I rx ry h;obtain⟨hs,q⟩:=h;cases x with
 |non=>
  cases rx;cases y with
  |non=>cases ry;exact PySem.EqNone.eq_none_none (qc8 I q (by simp))
  |bl j=>cases ry;exact PySem.EqNone.eq_none_bool (qc8 I q (by simp))
  |int j=>obtain⟨t',rfl⟩:=ry;exact PySem.EqNone.eq_none_int (qc8 I q (by simp))
  |str j=>obtain⟨t',rfl⟩:=ry;exact PySem.EqNone.eq_none_str (qc8 I q (by simp))
  |_=>exact absurd (show false=true from hs) Zs
 |bl i=>
  cases rx;cases y with
  |non=>cases ry;exact PySem.EqNone.eq_bool_none (qc8 I q (by simp))
  |bl j=>cases ry;exact eq_bool (qc8 I q xc5)
  |str j=>obtain⟨t',rfl⟩:=ry;exact PySem.EqMixed.eq_bool_str (qc8 I q (by simp))
  |_=>exact absurd (show false=true from hs) Zs
 |int i=>
  obtain⟨t,rfl⟩:=rx;cases y with
  |non=>cases ry;exact PySem.EqNone.eq_int_none (qc8 I q (by simp))
  |int j=>obtain⟨t',rfl⟩:=ry;exact eq_int (qc8 I q qU4)
  |str j=>obtain⟨t',rfl⟩:=ry;exact PySem.EqMixed.eq_int_str (qc8 I q (by simp))
  |_=>exact absurd (show false=true from hs) Zs
 |str i=>
  obtain⟨t,rfl⟩:=rx;cases y with
  |non=>cases ry;exact PySem.EqNone.eq_str_none (qc8 I q (by simp))
  |bl j=>cases ry;exact PySem.EqMixed.eq_str_bool (qc8 I q (by simp))
  |int j=>obtain⟨t',rfl⟩:=ry;exact PySem.EqMixed.eq_str_int (qc8 I q (by simp))
  |str j=>obtain⟨t',rfl⟩:=ry;exact eq_str (qc8 I q qU5)
  |_=>exact absurd (show false=true from hs) Zs
 |byt i=>
  obtain⟨t,rfl⟩:=rx;cases y with
  |byt j=>obtain⟨t',rfl⟩:=ry;exact PySem.W.eq_bytes (qc8 I q qU6)
  |_=>exact absurd (show false=true from hs) Zs
 |_=>cases y<;>exact absurd (show false=true from hs) Zs
theorem q65:OpR X (compareOp .NotEq) rNe:=by
 intro j1 s σ H x y v u Q I rx ry h;obtain⟨hs,q⟩:=h;cases x with
 |non=>
  cases rx;cases y with
  |non=>cases ry;exact PySem.EqNone.ne_none_none (qc8 I q (by simp))
  |bl j=>cases ry;exact PySem.EqNone.ne_none_bool (qc8 I q (by simp))
  |int j=>obtain⟨t',rfl⟩:=ry;exact PySem.EqNone.ne_none_int (qc8 I q (by simp))
  |str j=>obtain⟨t',rfl⟩:=ry;exact PySem.EqNone.ne_none_str (qc8 I q (by simp))
  |_=>exact absurd (show false=true from hs) Zs
 |bl i=>
  cases rx;cases y with
  |non=>cases ry;exact PySem.EqNone.ne_bool_none (qc8 I q (by simp))
  |bl j=>cases ry;exact ne_bool (qc8 I q (ZQ not xc5))
  |str j=>obtain⟨t',rfl⟩:=ry;exact PySem.EqMixed.ne_bool_str (qc8 I q (by simp))
  |_=>exact absurd (show false=true from hs) Zs
 |int i=>
  obtain⟨t,rfl⟩:=rx;cases y with
  |non=>cases ry;exact PySem.EqNone.ne_int_none (qc8 I q (by simp))
  |int j=>obtain⟨t',rfl⟩:=ry;exact ne_int (qc8 I q (ZQ not qU4))
  |str j=>obtain⟨t',rfl⟩:=ry;exact PySem.EqMixed.ne_int_str (qc8 I q (by simp))
  |_=>exact absurd (show false=true from hs) Zs
 |str i=>
  obtain⟨t,rfl⟩:=rx;cases y with
  |non=>cases ry;exact PySem.EqNone.ne_str_none (qc8 I q (by simp))
  |bl j=>cases ry;exact PySem.EqMixed.ne_str_bool (qc8 I q (by simp))
  |int j=>obtain⟨t',rfl⟩:=ry;exact PySem.EqMixed.ne_str_int (qc8 I q (by simp))
  |str j=>obtain⟨t',rfl⟩:=ry;exact ne_str (qc8 I q (ZQ not qU5))
  |_=>exact absurd (show false=true from hs) Zs
 |byt i=>
  obtain⟨t,rfl⟩:=rx;cases y with
  |byt j=>obtain⟨t',rfl⟩:=ry;exact PySem.W.ne_bytes (qc8 I q (ZQ not qU6))
  |_=>exact absurd (show false=true from hs) Zs
 |_=>cases y<;>exact absurd (show false=true from hs) Zs
theorem qp0:OpR X (compareOp .Lt) (rI0 λi j=>.bl (decide (i<j))):=opB0 λ_ _ _ _ _ _ _ q=>lt_int q
theorem qC7:OpR X (compareOp .LtE) (rI0 λi j=>.bl (decide (i<=j))):=opB0 λ_ _ _ _ _ _ _ q=>le_int q
theorem xf7:OpR X (compareOp .Gt) (rI0 λi j=>.bl (decide (j<i))):=opB0 λ_ _ _ _ _ _ _ q=>gt_int q
theorem qb6(b:Expr){op:CmpOp}(h:op≠.In:=by decide)(h2:op≠.NotIn:=by decide):behindInMarks op b=false:=by
 have e1:(op==CmpOp.In)=false:=by cases op<;>first|rfl|exact absurd rfl h
 have e2:(op==CmpOp.NotIn)=false:=by cases op<;>first|rfl|exact absurd rfl h2
 cases b<;>simp[behindInMarks,e1,e2]
theorem qf9{op:CmpOp}{r:R2}(ho:OpR X (compareOp op) r)(ha:PE X a ta)(hb:PE X b tb)(hm:behindInMarks op b=false):PE X (.Compare a [op] [b] pos) (tOp r ta tb):=by
 intro j1 s σ H Q I h;exact wpAny_Compare1 (binT ha hb I h λv u s2 x y H2 I2 rx ry q=>ho j1 s2 σ H2 x y v u Q I2 rx ry q) hm
inductive tTest_(Q:Bool->Hp->Prop)(x:V)(H':Hp):Prop
 |mk(k:_)(e0:x=.bl k)(e1:Q k H')
def xn9(t:TE):TT:=λσ H Q=>t σ H λx H'=>tTest_ Q x H'
theorem qb8{op:CmpOp}{r:R2}(ho:OpR X (compareOp op) r)(ha:PE X a ta)(hb:PE X b tb)(hm:behindInMarks op b=false):PT X (.Compare a [op] [b] pos) (xn9 (tOp r ta tb)):=by
 intro j1 s σ H Q I h;refine wpAny_isTrue_Compare1 (thn (ha j1 s σ H _ I h) λv s1 ⟨x,H1,I1,r1,q1⟩=>thn (hb j1 s1 σ H1 _ I1 q1) λu s2 ⟨y,H2,I2,r2,q2⟩=>
  thn (ho j1 s2 σ H2 x y v u _ I2 r1 r2 q2) λc s3 ⟨z,H3,I3,r3,k,e,q3⟩=>?_) hm
 subst e;cases r3;exact ZX ⟨H3,I3,q3⟩
def xc6(r r':R2)(ta tb tc:TE):TE:=λσ H Q=>ta σ H λx H1=>tb σ H1 λy H2=>r x y H2 λz H3=>∃k,z=.bl k /\
 (if k=true then tc σ H3 λw' H4=>r' y w' H4 Q else Q (.bl false) H3)
theorem qK9{op op':CmpOp}{r r':R2}(ho:OpR X (compareOp op) r)(ho':OpR X (compareOp op') r')(ha:PE X a ta)(hb:PE X b tb)(hc:PE X c tc)
  (hm:lastMarks [op,op'] [b,c]=false:=by with_unfolding_all rfl):PE X (.Compare a [op,op'] [b,c] pos) (xc6 r r' ta tb tc):=by
 intro j1 s σ H Q I h;refine Compare_chain (thn (ha j1 s σ H _ I h) λv s1 ⟨x,H1,I1,r1,q1⟩=>chain_link (thn (hb j1 s1 σ H1 _ I1 q1) λu s2 ⟨y,H2,I2,r2,q2⟩=>
  thn (ho j1 s2 σ H2 x y v u _ I2 r1 r2 q2) λd s3 ⟨z,H3,I3,r3,k,e,q3⟩=>?_)) hm
 subst e;cases r3;refine ZX ?_;cases k with
 |false=>exact ite_ff ⟨.bl false,H3,I3,rfl,q3⟩
 |true=>exact ite_tt (chain_last (thn (hc j1 s3 σ H3 _ I3 q3) λw' s4 ⟨z',H4,I4,r4,q4⟩=>ho' j1 s4 σ H4 y z' u w' Q I4 r2 r4 q4))
theorem q66{op op':CmpOp}{r r':R2}(ho:OpR X (compareOp op) r)(ho':OpR X (compareOp op') r')(ha:PE X a ta)(hb:PE X b tb)(hc:PE X c tc)
  (hm:lastMarks [op,op'] [b,c]=false:=by with_unfolding_all rfl):PT X (.Compare a [op,op'] [b,c] pos) (xn9 (xc6 r r' ta tb tc)):=by
 intro j1 s σ H Q I h;refine isTrue_chain (thn (ha j1 s σ H _ I h) λv s1 ⟨x,H1,I1,r1,q1⟩=>test_link (thn (hb j1 s1 σ H1 _ I1 q1) λu s2 ⟨y,H2,I2,r2,q2⟩=>
  thn (ho j1 s2 σ H2 x y v u _ I2 r1 r2 q2) λd s3 ⟨z,H3,I3,r3,k,e,q3⟩=>?_)) hm
 subst e;cases r3;refine ZX ?_;cases k with
 |false=>
  obtain⟨k',e',q'⟩:=q3;cases e';exact ite_ff ⟨H3,I3,q'⟩
 |true=>
  refine ite_tt (test_last (thn (hc j1 s3 σ H3 _ I3 q3) λw' s4 ⟨z',H4,I4,r4,q4⟩=>thn (ho' j1 s4 σ H4 y z' u w' _ I4 r2 r4 q4) λd' s5 ⟨z2,H5,I5,r5,k2,e2,q5⟩=>?_));subst e2;cases r5;exact ZX ⟨H5,I5,q5⟩
theorem qC8:(sizeLine:Nat)<2^63:=by rw[YZ];decide
theorem qi2{x:V}{us:List Value}(r:Vals [x] us):∃u,us=[u]/\RelV x u:=by
 cases r with
 |cons r1 r2=>cases r2;exact⟨_,rfl,r1⟩
theorem xf8{x y:V}{us:List Value}(r:Vals [x,y] us):∃u w',us=[u,w']/\RelV x u/\RelV y w':=by
 cases r with
 |cons r1 r2=>
  cases r2 with
  |cons r3 r4=>cases r4;exact⟨_,_,rfl,r1,r3⟩
theorem qL0:qg4 X (.builtin "abs") (λxs H Q=>∃i,xs=[.int i]/\Q (.int (if i<0 then -i else i)) H):=by
 intro j1 s σ H xs us Q I r h;obtain⟨i,rfl,q⟩:=h;obtain⟨u,rfl,t,rfl⟩:=qi2 r;exact call_abs_int λu tk=>⟨.int (if i<0 then -i else i),H,I.tok _,⟨_,rfl⟩,q⟩
theorem qC9(hc:X.calm=true):qg4 X (.builtin "max") (λxs H Q=>∃i j,xs=[.int i,.int j]/\Q (.int (if j>i then j else i)) H):=by
 intro j1 s σ H xs us Q I r h;obtain⟨i,j,rfl,q⟩:=h;obtain⟨u,w',rfl,⟨t,rfl⟩,⟨t',rfl⟩⟩:=xf8 r;refine max_two_ints (I.ok.hd hc) λh' tk k=>⟨_,H,I.kept k,?_,q⟩;by_cases hj:j>i
 ·rw[Zm hj,Zm hj];exact⟨_,rfl⟩
 ·rw[Zh hj,Zh hj];exact⟨_,rfl⟩
theorem qU7(hc:X.calm=true):qg4 X (.builtin "min") (λxs H Q=>∃i j,xs=[.int i,.int j]/\Q (.int (if j<i then j else i)) H):=by
 intro j1 s σ H xs us Q I r h;obtain⟨i,j,rfl,q⟩:=h;obtain⟨u,w',rfl,⟨t,rfl⟩,⟨t',rfl⟩⟩:=xf8 r;refine min_two_ints (I.ok.hd hc) λh' tk k=>⟨_,H,I.kept k,?_,q⟩;by_cases hj:j<i
 ·rw[Zm hj,Zm hj];exact⟨_,rfl⟩
 ·rw[Zh hj,Zh hj];exact⟨_,rfl⟩
theorem qh1:qg4 X (.type "int") (λxs H Q=>(∃i,xs=[.int i]/\Q (.int i) H)\/∃k,xs=[.bl k]/\Q (.int (if k then 1 else 0)) H):=by
 intro j1 s σ H xs us Q I r h;rcases h with ⟨i,rfl,q⟩|⟨k,rfl,q⟩
 ·obtain⟨u,rfl,t,rfl⟩:=qi2 r;exact call_int_int ⟨.int i,H,I,⟨_,rfl⟩,q⟩
 ·obtain⟨u,rfl,r1⟩:=qi2 r;cases r1;exact call_int_bool ⟨.int (if k then 1 else 0),H,I.tok _,⟨_,rfl⟩,q⟩
end
structure ObjM(h:Heap)(x dx C:Addr)(mA:Str->Option Value):Prop where
 obj:h.get? x=some (PySem.W.instObj C dx)
 ns:h.Ns1 dx mA
 ne:dx≠x
theorem qU8{h:Heap}{dx:Addr}{mA:Str->Option Value}(n:h.Ns1 dx mA):∃od,h.get? dx=some od/\∀name,PySem.W.lookIn name od=some (mA name):=by
 obtain⟨o,es,ep,ho,hd,hk,_,hm⟩:=n;refine⟨o,ho,λname=>?_⟩;have e:=hm name;unfold nsFind findBy at e;rw[<- Array.find?_toList] at e;unfold PySem.W.lookIn;rw[hd];dsimp only;split
 ·rename_i y q;rw[q] at e;exact ZQ some e
 ·rename_i q;rw[q] at e;have a:es.toList.any (·.refKey)=false:=by
   rw[WV];intro y hy;obtain⟨z,t,hkey⟩:=hk y (Array.mem_toList_iff.mp hy);simp[DictEntry.refKey,hkey]
  have a':¬es.toList.any (·.refKey)=true:=by rw[a];exact Zs
  rw[Zh a'];exact ZQ some e
theorem ObjM.look{h:Heap}{x dx C:Addr}{mA:Str->Option Value}(I:ObjM h x dx C mA):∃od,PySem.W.InstAt h x (PySem.W.instObj C dx) C (some od)/\∀name,PySem.W.lookIn name od=some (mA name):=
 let ⟨od,ho,hl⟩:=qU8 I.ns
 ⟨od,⟨I.obj,rfl,rfl,ho⟩,hl⟩
section
variable{prog:Program}{w:World}{A:Around}{E:Value->Shared->Prop}{s:Shared}{K:PySem.W.Frag}{x dx C f:Addr}{mA:Str->Option Value}{name:Str}{v:Value}
theorem xf9{expr:Bool}{Q:Value->Shared->Prop}(X:K.In s.heap)(I:ObjM s.heap x dx C mA)(hg:PySem.W.plainGet K C name=true)(hh:PySem.W.hasDictIn K C=true)
  (ha:PySem.W.findIn K (.ref C) name=some none) (hv:mA name=some v) (hv':PySem.W.handedIn v=true) (h:Q v { s with toks:=s.toks+1 }) :
  wpAny (model prog w) A (getAttr (.ref x) name expr) Q E s:=by
 obtain⟨od,J,hl⟩:=I.look;exact PySem.W.get_value X J (WC hg).1 (PySem.W.findObj_own hh ha rfl (by rw[hl,hv])) hv' h
theorem q67{pl:Sem Bool}{Q:Value×List Value->Shared->Prop}(X:K.In s.heap)(I:ObjM s.heap x dx C mA)(hg:PySem.W.plainGet K C name=true)
  (hf:PySem.W.findIn K (.ref C) name=some (some (.ref f))) (ht:PySem.W.isFn K (.ref f)=true) (hv:mA name=none) (h:Q (.ref f,[.ref x]) s) :
  wpAny (model prog w) A (getMethod (.ref x) name pl) Q E s:=by
 obtain⟨od,J,hl⟩:=I.look;exact PySem.W.method_fn X J (WC hg).1 (WC hg).2 hf (X1.mp ht) (by show (PySem.W.lookIn name od).map (·.isSome)=some false;rw[hl,hv];rfl) h
theorem xg0{ns:List Str}{Q:Unit->Shared->Prop}(X:K.In s.heap)(I:ObjM s.heap x dx C mA)
  (hs:PySem.W.findIn K (.ref C) "__setattr__" = some (some (.builtin "object.__setattr__"))) (hp:PySem.W.plainOver K C=true) (ht:PySem.W.takerIn K C name=some none) (hh:PySem.W.hasDictIn K C=true)
  (hw:PySem.Within mA ns) (hsz:ns.length<=sizeLine)
  (h:∀h',ObjM h' x dx C (λy=>if y=name then some v else mA y)->Heap.SameBut dx s.heap h'->Q () { s with heap:=h',toks:=s.toks+2 }) :
  wpAny (model prog w) A (setAttr (.ref x) name v) Q E s:=by
 obtain⟨od,J,hl⟩:=I.look;refine PySem.W.set_plain X J hs (PySem.W.osa_open (s:={ s with toks:=s.toks+1 }) (r:=none) X J hp ht λb=>?_);obtain⟨cd,hc,hd'⟩:=PySem.W.any_some hh;have hx:s.heap.get? x=some ⟨.ref C,some dx,.plain,#[]⟩:=I.obj;refine Za (Zb (Za (Za (wpAny_loadPart hx (Za (PySem.W.Looks.here (s:={ s with toks:=s.toks+1 }) (PySem.W.looks_clsIn X hc) ?_))))));rw[hd'];refine Zb (a:=some dx) (Za (Zb (Za ?_)));refine wpAny_nsSet1 (s:={ s with toks:=s.toks+1 }) I.ns λh' hn2 kY=>?_;obtain⟨oD,esD,epD,hoD,hdD,kU⟩:=hn2.count (PySem.Within.cons name v hw);refine Za (wpAny_lookBehind hoD (by rw[hdD];exact pastItsLine_dict (ZH kU (by rw[ZK];lia))) ?_);exact Zb (h _ ⟨(kY.2 _ (Xc I.ne)).trans I.obj,hn2,I.ne⟩ kY)
theorem q68{R:Result->Shared->Prop}{vs:List Value}{kw:List (Str×Value)}(X:K.In s.heap)(hm:PySem.W.makesIn K C=true)
  (hi:PySem.W.findIn K (.ref C) "__init__" = some (some (.ref f))) (hf:PySem.W.typeIn K (.ref f)=some (.type "function"))
  (h:codeAny (model prog w) (A.under (.builtin "type.__call__" ⟨.ref C::vs,kw⟩)) (.call (.ref f) ⟨.ref (s.heap.objs.size+1)::vs,kw⟩) (PySem.W.InitBack (s.heap.objs.size+1) R)
   { s with heap:=(s.heap.push PySem.W.emptyDict).push (PySem.W.instObj C s.heap.objs.size) }) :
  codeAny (model prog w) A (.call (.ref C) ⟨vs,kw⟩) R s:=by
 obtain⟨hh,g,d,t,os⟩:=s;exact PySem.W.make_core (PySem.W.makes_of X hm) (PySem.W.looks_findIn X hi) (λself=>PySem.W.bind_fn X self hf) (.inl rfl) h
end
def putF(f:Str)(v:V):List (Str×V)->List (Str×V)
 |[]=>[(f,v)]
 |(g,x)::r=>if g=f then (g,v)::r else (g,x)::putF f v r
theorem qt4(f g:Str)(v:V):∀fs:List (Str×V),(putF f v fs).lookup g=if g=f then some v else fs.lookup g
 |[]=>by
  show List.lookup g [(f,v)]=_;by_cases h:g=f
  ·have hb:(g==f)=true:=X1.mpr h;simp only[List.lookup,hb,Zm h]
  ·have hb:(g==f)=false:=Yp.mpr h;simp only[List.lookup,hb,Zh h]
 |(k,x)::r=>by
  have ih:=qt4 f g v r;rw[show putF f v ((k,x)::r)=(if k=f then (k,v)::r else (k,x)::putF f v r) from rfl];by_cases hk:k=f
  ·rw[Zm hk];by_cases h:g=k
   ·have hb:(g==k)=true:=X1.mpr h;simp only[List.lookup,hb,Zm (h.trans hk)]
   ·have hb:(g==k)=false:=Yp.mpr h;simp only[List.lookup,hb,Zh (λe:g=f=>h (e.trans hk.symm))]
  ·rw[Zh hk];by_cases h:g=k
   ·have hb:(g==k)=true:=X1.mpr h;simp only[List.lookup,hb,Zh (λe:g=f=>hk (h.symm.trans e))]
   ·have hb:(g==k)=false:=Yp.mpr h;simp only[List.lookup,hb];exact ih
theorem qt5(f:Str)(v:V):∀fs:List (Str×V),f∈(putF f v fs).map (·.1)/\∀g,g∈fs.map (·.1)->g∈(putF f v fs).map (·.1)
 |[]=>⟨by simp[putF],λg h=>by simp at h⟩
 |(k,x)::r=>by
  obtain⟨i1,i2⟩:=qt5 f v r;rw[show putF f v ((k,x)::r)=(if k=f then (k,v)::r else (k,x)::putF f v r) from rfl];by_cases hk:k=f
  ·rw[Zm hk];subst hk;exact⟨by simp,λg h=>by simpa using h⟩
  ·rw[Zh hk];refine⟨?_,λg h=>?_⟩
   ·rw[Zz];exact Zn _ i1
   ·rw[Zz] at h ⊢;rcases Zv.mp h with e|e
    ·exact Zv.mpr (.inl e)
    ·exact Zn _ (i2 g e)
theorem qt6(f:Str)(v:V):∀fs:List (Str×V),(putF f v fs).length<=fs.length+1
 |[]=>by simp[putF]
 |(k,x)::r=>by
  have ih:=qt6 f v r;rw[show putF f v ((k,x)::r)=(if k=f then (k,v)::r else (k,x)::putF f v r) from rfl];by_cases hk:k=f
  ·rw[Zm hk,ZK,ZK];lia
  ·rw[Zh hk,ZK,ZK];lia
theorem RelO.some_of{v:V}{o:Option Value}(r:RelO (some v) o):∃u,o=some u/\RelV v u:=by
 cases o with
 |none=>exact (show False from r).elim
 |some u=>exact⟨u,rfl,r⟩
theorem RelO.none_of{o:Option Value}(r:RelO none o):o=none:=by
 cases o with
 |none=>rfl
 |some u=>exact (show False from r).elim
theorem qU9{v:V}{u:Value}(r:RelV v u):PySem.W.handedIn u=true:=by
 cases v with
 |non=>cases (show u=Value.none from r);rfl
 |bl b=>cases (show u=Value.bool b from r);rfl
 |int i=>obtain⟨t,e⟩:=(show ∃t,u=Value.int i t from r);cases e;rfl
 |str x=>obtain⟨t,e⟩:=(show ∃t,u=Value.str x t from r);cases e;rfl
 |byt b=>obtain⟨t,e⟩:=(show ∃t,u=Value.bytes b t from r);cases e;rfl
 |flt b=>obtain⟨t,e⟩:=(show ∃t,u=Value.float b t from r);cases e;rfl
 |ref a=>cases (show u=Value.ref a from r);rfl
 |ty n=>cases (show u=Value.type n from r);rfl
section
variable{P:Program}{w:World}{H H':Hp}{h h':Heap}{a C dx:Addr}{fs fs':List (Str×V)}
theorem qz2(hok:HOk P w H h)(e:H a=some (.ins C dx fs)):∃mA,ObjM h a dx C mA/\(∀f,RelO (fs.lookup f) (mA f))/\PySem.Within mA (fs.map (·.1))/\fs.length<=1000/\H dx=some (.own a):=by
 obtain⟨d,z,ne,ob,mA,n,r,q⟩:=(show ObjOk P w H h a (.ins C dx fs) from hok a _ e);exact⟨mA,⟨ob,n,ne⟩,r,q,z,d⟩
end
structure Cls(K:PySem.W.Frag)(C:Addr):Prop where
 pg:PySem.W.plainGet K C Str.empty=true
 hd:PySem.W.hasDictIn K C=true
 po:PySem.W.plainOver K C=true
 sa:PySem.W.findIn K (.ref C) "__setattr__" = some (some (.builtin "object.__setattr__"))
theorem Cls.get{K:PySem.W.Frag}{C:Addr}(c:Cls K C)(f:Str):PySem.W.plainGet K C f=true:=c.pg
def NoAttr(K:PySem.W.Frag)(C:Addr)(f:Str):Prop:=PySem.W.findIn K (.ref C) f=some none
theorem NoAttr.taker{K:PySem.W.Frag}{C:Addr}{f:Str}(n:NoAttr K C f):PySem.W.takerIn K C f=some none:=by
 unfold PySem.W.takerIn;rw[show PySem.W.findIn K (.ref C) f=some none from n]
 rfl
structure Meth(K:PySem.W.Frag)(C:Addr)(m:Str)(f:Addr):Prop where
 at_:PySem.W.findIn K (.ref C) m=some (some (.ref f))
 fn:PySem.W.isFn K (.ref f)=true
 kp:PySem.W.keepIn K (.ref f)=true
section
variable{X:Cx}{j1:List (Addr×Obj)}{σ:St}{H:Hp}{s:Shared}{a C dx:Addr}{fs:List (Str×V)}{f:Str}{v:V}{A:Around}{E:Value->Shared->Prop}
theorem qP8{b:Bool}{Q:Value->Shared->Prop}(I:Inv X j1 σ H s)(e:H a=some (.ins C dx fs))(c:Cls X.K C)(n:NoAttr X.K C f)(l:fs.lookup f=some v)
  (h:∀u s',Inv X j1 σ H s'->RelV v u->Q u s'):wpAny (model X.prog X.w) A (getAttr (.ref a) f b) Q E s:=by
 obtain⟨mA,O,r,_,_,_⟩:=qz2 I.hok e;obtain⟨u,hu,ru⟩:=RelO.some_of (v:=v) (o:=mA f) (by rw[<- l];exact r f);exact xf9 I.kIn O (c.get f) c.hd n hu (qU9 ru) (h u _ (I.tok _) ru)
theorem qP9{m:Str}{g:Addr}{pl:Sem Bool}{Q:Value×List Value->Shared->Prop}(I:Inv X j1 σ H s)(e:H a=some (.ins C dx fs))(c:Cls X.K C)(k:Meth X.K C m g)(l:fs.lookup m=none)
  (h:Q (.ref g,[.ref a]) s):wpAny (model X.prog X.w) A (getMethod (.ref a) m pl) Q E s:=by
 obtain⟨mA,O,r,_,_,_⟩:=qz2 I.hok e;have hn:mA m=none:=RelO.none_of (by rw[<- l];exact r m);exact q67 I.kIn O (c.get m) k.at_ k.fn hn h
theorem qQ0{y:V}{u:Value}{Q:Unit->Shared->Prop}(I:Inv X j1 σ H s)(e:H a=some (.ins C dx fs))(c:Cls X.K C)(n:NoAttr X.K C f)(hl:fs.length<1000)(ry:RelV y u)
  (h:∀s',Inv X j1 σ (upd H a (.ins C dx (putF f y fs))) s'->Q () s'):wpAny (model X.prog X.w) A (setAttr (.ref a) f u) Q E s:=by
 obtain⟨mA,O,r,wi,_,ho⟩:=qz2 I.hok e;have hz:(fs.map (·.1)).length<=sizeLine:=by rw[Ze,YZ];lia
 refine xg0 I.kIn O c.sa c.po n.taker c.hd wi hz λh' O' sb=>h _ ?_;have hd:∃o,h'.get? dx=some o:=let ⟨o,_,_,e',_⟩:=O'.ns;⟨o,e'⟩;refine I.write (x:=a) (e:=dx) (by rw[e];exact True.intro) (.inr ho) (λb q hb z=>(sb.2 b hb).trans z) hd ?_;refine⟨by rw[qa7 O.ne];exact ho,?_,O.ne,O'.obj,_,O'.ns,λg=>?_,λg hg=>?_⟩
 ·have:=qt6 f y fs;lia
 ·show RelO ((putF f y fs).lookup g) (if g=f then some u else mA g);rw[qt4];by_cases q:g=f
  ·rw[Zm q,Zm q];exact ry
  ·rw[Zh q,Zh q];exact r g
 ·by_cases q:g=f
  ·rw[q];exact (qt5 f y fs).1
  ·refine (qt5 f y fs).2 g (wi g λz=>hg ?_);show (if g=f then some u else mA g)=none;rw[Zh q];exact z
theorem Inv.made(I:Inv X j1 σ H s):Inv X j1 σ (upd (upd H s.heap.objs.size (.own (s.heap.objs.size+1))) (s.heap.objs.size+1) (.ins C s.heap.objs.size []))
  { s with heap:=(s.heap.push PySem.W.emptyDict).push (PySem.W.instObj C s.heap.objs.size) }:=by
 have e1:(s.heap.push PySem.W.emptyDict).get? s.heap.objs.size=some PySem.W.emptyDict:=Zj s.heap rfl;have e2:((s.heap.push PySem.W.emptyDict).push (PySem.W.instObj C s.heap.objs.size)).get? (s.heap.objs.size+1)=some (PySem.W.instObj C s.heap.objs.size):=by
  have:=Zj (s.heap.push PySem.W.emptyDict) (o:=PySem.W.instObj C s.heap.objs.size) rfl
  rwa [YC] at this
 have e3:(s.heap.push PySem.W.emptyDict).Ns s.heap.objs.size (λ_=>none):=⟨PySem.W.emptyDict,#[],_,e1,rfl,(λe he=>absurd he (by simp)),λ_=>rfl⟩;have I1:=I.laid (a:=s.heap.objs.size) (o:=.own (s.heap.objs.size+1)) (h':=s.heap.push PySem.W.emptyDict) (t':=s.toks) (λb u q=>Zc _ q) (Zf _) ⟨_,e1⟩;refine I1.laid (a:=s.heap.objs.size+1) (o:=.ins C s.heap.objs.size []) (t':=s.toks) (λb u q=>Zc _ q) (WF (YC _ _)) ?_;have ne:s.heap.objs.size≠s.heap.objs.size+1:=ZB (ZL _);refine⟨by rw[qa7 ne,qa1],Zx _,ne,e2,λ_=>none,(Heap.Ns1.of_empty e3).at λo q=>Zc _ q,λ_=>True.intro,λy hy=>absurd rfl hy⟩
theorem xg1{prog:Program}{w:World}{env:Env}{e:Expr}{f:Str}{pos:Pos}{s:Shared}{Q:Value->Shared->Prop}(hb:attributeBase e f env (eval e env)=eval e env)
  (h:wpAny (model prog w) A (eval e env) (λo s₁=>wpAny (model prog w) A (getAttr o f true) Q E s₁) E s):wpAny (model prog w) A (eval (.Attribute e f pos) env) Q E s:=
 Attribute_any_ h (by rw[arm_eval_Attribute,hb])
end
inductive tFld_(K:PySem.W.Frag)(f:Str)(Q:VK)(x:V)(H1:Hp):Prop
 |mk(a:_)(C:_)(dx:_)(fs:_)(v:_)(e0:x=.ref a)(e1:H1 a=some (.ins C dx fs))(e2:Cls K C)(e3:NoAttr K C f)(e4:fs.lookup f=some v)(e5:Q v H1)
def tFld(K:PySem.W.Frag)(ta:TE)(f:Str):TE:=λσ H Q=>ta σ H λx H1=>tFld_ K f Q x H1
inductive sFld_(K:PySem.W.Frag)(f:Str)(y:V)(D:Ends)(σ:St)(x:V)(H2:Hp):Prop
 |mk(a:_)(C:_)(dx:_)(fs:_)(e0:x=.ref a)(e1:H2 a=some (.ins C dx fs))(e2:Cls K C)(e3:NoAttr K C f)(e4:fs.length<1000)(e5:D.nx σ (upd H2 a (.ins C dx (putF f y fs))))
def sFld(K:PySem.W.Frag)(ta tv:TE)(f:Str):TS:=λD σ H=>tv σ H λy H1=>ta σ H1 λx H2=>sFld_ K f y D σ x H2
section
variable{X:Cx}{o e value:Expr}{f:Str}{pos pos' tpos:Pos}{ta tv:TE}
theorem qt7(he:PE X e ta)(hb:attributeBase e f X.env (eval e X.env)=eval e X.env):PE X (.Attribute e f pos) (tFld X.K ta f):=by
 intro j1 s σ H Q I h;refine xg1 hb (thn (he j1 s σ H _ I h) λu s1 ⟨x,H1,I1,rx,a,C,dx,fs,v,ex,ea,c,n,l,q⟩=>?_);subst ex;obtain rfl:u=Value.ref a:=rx;exact qP8 I1 ea c n l λu' s2 I2 ru=>⟨v,H1,I2,ru,q⟩
theorem qV0(ha:PE X o ta)(hv:PE X value tv)(hs:swapsWith value (some (.Attribute o f pos')) pos.line X.env=pure false):PS X (.Assign [.Attribute o f pos'] value pos) (sFld X.K ta tv f):=by
 intro j1 s σ H D I h;refine plainObj_wpAny_Assign_Attribute (thn (hv j1 s σ H _ I h) λu s1 ⟨y,H1,I1,ry,q⟩=>thn (ha j1 s1 σ H1 _ I1 q) λov s2 ⟨x,H2,I2,rx,a,C,dx,fs,ex,ea,c,n,l,q2⟩=>?_) hs;subst ex;obtain rfl:ov=Value.ref a:=rx;exact qQ0 I2 ea c n l ry λs3 I3=>⟨σ,_,I3,q2⟩
end
section
variable{X:Cx}{j1:List (Addr×Obj)}{σ:St}{H:Hp}{s:Shared}{A:Around}{E:Value->Shared->Prop}{Q:Value->Shared->Prop}{c:Value}{b:Bool}
inductive TyOf(K:PySem.W.Frag)(H:Hp):V->Value->Prop where
 |non:TyOf K H .non (.type "NoneType")
 |bl (x:Bool):TyOf K H (.bl x) (.type "bool")
 |int (i:Int):TyOf K H (.int i) (.type "int")
 |str (x:Str):TyOf K H (.str x) (.type "str")
 |flt (x:UInt64):TyOf K H (.flt x) (.type "float")
 |lst {a:Addr}{xs:List V}(e:H a=some (.lst xs)):TyOf K H (.ref a) (.type "list")
 |frz {a:Addr}{o:Obj}{xs:List V}(e:H a=some (.frz o (.lst xs))):TyOf K H (.ref a) (.type "list")
 |tup {a:Addr}{xs:List V}(e:H a=some (.tup xs)):TyOf K H (.ref a) (.type "tuple")
 |dK {a:Addr}{kvs:List (Key×V)}(e:H a=some (.dK kvs)):TyOf K H (.ref a) (.type "dict")
 |dT {a:Addr}{kvs:List (List Key×V)}(e:H a=some (.dT kvs)):TyOf K H (.ref a) (.type "dict")
 |ins {a C dx:Addr}{fs:List (Str×V)}(e:H a=some (.ins C dx fs)) (cl:Cls K C) (ha:PySem.W.findIn K (.ref C) "__class__" = some (some (.builtin "object.__class__")))
   (hn:PySem.W.specialIn K (.builtin "object.__class__") "__get__" = some (some (.builtin "getset_descriptor.__get__"))) (htk:PySem.W.takesIn K (.builtin "object.__class__")=some true)
   (hm:PySem.W.mroIn K C (.type "object")=some true):TyOf K H (.ref a) (.ref C)
theorem qV1{x:V}{u t:Value}(I:Inv X j1 σ H s)(rx:RelV x u)(ty:TyOf X.K H x t)(e:PySem.W.kitOne X.K t c=some b)(h:∀tk,Q (.bool b) { s with toks:=tk }) :
  wpAny (model X.prog X.w) A (call (.builtin "isinstance") [u,c]) Q E s:=by
 cases ty with
 |non=>cases (show u=Value.none from rx);exact Z8 PySem.W.kitx_none I.kIn True.intro e (λz=>nomatch z) h
 |bl y=>cases (show u=Value.bool y from rx);exact Z8 PySem.W.kitx_bool I.kIn True.intro e (λz=>nomatch z) h
 |int i=>obtain⟨t,q⟩:=(show ∃t,u=Value.int i t from rx);cases q;exact Z8 PySem.W.kitx_int I.kIn True.intro e (λz=>nomatch z) h
 |str y=>obtain⟨t,q⟩:=(show ∃t,u=Value.str y t from rx);cases q;exact Z8 PySem.W.kitx_str I.kIn True.intro e (λz=>nomatch z) h
 |flt y=>obtain⟨t,q⟩:=(show ∃t,u=Value.float y t from rx);cases q;exact Z8 PySem.W.kitx_float I.kIn True.intro e (λz=>nomatch z) h
 |@lst a xs ea=>
  cases (show u=Value.ref a from rx);obtain⟨_,_,n,_,h1⟩:=(show ObjOk X.prog X.w H s.heap a (.lst xs) from I.hok a _ ea);exact Z8 PySem.W.kitx_list I.kIn ⟨_,h1,rfl⟩ e (λz=>nomatch z) h
 |@frz a ob xs ea=>
  cases (show u=Value.ref a from rx);obtain⟨_,_,_,n,_,h1⟩:=(show ObjOk X.prog X.w H s.heap a (.frz ob (.lst xs)) from I.hok a _ ea);exact Z8 PySem.W.kitx_list I.kIn ⟨_,h1,rfl⟩ e (λz=>nomatch z) h
 |@tup a xs ea=>
  cases (show u=Value.ref a from rx);obtain⟨_,_,_,p⟩:=(show ObjOk X.prog X.w H s.heap a (.tup xs) from I.hok a _ ea);obtain⟨o,h1,h2,_⟩:=p;exact Z8 PySem.W.kitx_tuple I.kIn ⟨o,h1,h2⟩ e (λz=>nomatch z) h
 |@dK a kvs ea=>
  cases (show u=Value.ref a from rx);obtain⟨_,_,vs,_,p⟩:=(show ObjOk X.prog X.w H s.heap a (.dK kvs) from I.hok a _ ea);obtain⟨o,es,ep,h1,h2,_⟩:=p;exact Z8 PySem.W.kitx_dict I.kIn ⟨o,h1,h2.1⟩ e (λz=>nomatch z) h
 |@dT a kvs ea=>
  cases (show u=Value.ref a from rx);obtain⟨_,_,xs,_,o,es,ep,h1,h2,_⟩:=(show ObjOk X.prog X.w H s.heap a (.dT kvs) from I.hok a _ ea);exact Z8 PySem.W.kitx_dict I.kIn ⟨o,h1,h2.1⟩ e (λz=>nomatch z) h
 |@ins a C dx fs ea cl ha hn htk hm=>
  cases (show u=Value.ref a from rx);obtain⟨mA,O,_⟩:=qz2 I.hok ea;obtain⟨od,J,_⟩:=O.look;exact Z8 (PySem.W.kitx_own (cl.get _) cl.hd ha hn htk hm) I.kIn J e (λz=>nomatch z) h
end
structure Room(k:Nat)(A:Around):Prop where
 hd:A.handled=none
 dp:A.depth+3*k+5<recursionLimit
 un:A.units+16*k+200<cLine
 gd:A.guards=some []
theorem Room.mono{j k:Nat}{A:Around}(r:Room k A)(h:j<=k):Room j A:=⟨r.hd,by have:=r.dp;lia,by have:=r.un;lia,r.gd⟩
theorem Room.deeper{k:Nat}{A:Around}(r:Room (k+1) A)(env:Env):Room k (A.deeper env):=
 ⟨r.hd,by have:=r.dp;show A.depth+1+3*k+5<_;lia,by have:=r.un;show A.units+3+16*k+200<_;lia,r.gd⟩
theorem qQ1{A:Around}{C:Addr}{us:List Value}{kw:List (Str×Value)}:(A.under (.builtin "type.__call__" ⟨.ref C::us,kw⟩)).depth=A.depth+1:=by
 first|rfl|simp[Around.under,Code.weight,Code.isCreation,Code.isGuard,Code.isCaller,Code.frames,Code.isFrame,guardIds]
theorem qQ2{A:Around}{C:Addr}{us:List Value}{kw:List (Str×Value)}:(A.under (.builtin "type.__call__" ⟨.ref C::us,kw⟩)).units=A.units+1:=by
 first|rfl|simp[Around.under,Code.cUnits,Code.frames,Code.isFrame]
theorem qI2{A:Around}{C:Addr}{us:List Value}{kw:List (Str×Value)}:(A.under (.builtin "type.__call__" ⟨.ref C::us,kw⟩)).guards=A.guards:=by
 first|rfl|(unfold Around.under;simp[Code.guards,Code.isGuard,guardIds,pushGuards])|(cases h:A.guards<;>simp[Around.under,Code.guards,Code.isGuard,guardIds,pushGuards,h])
theorem Room.make{k:Nat}{A:Around}(r:Room (k+1) A)(C:Addr)(us:List Value)(kw:List (Str×Value)):Room k (A.under (.builtin "type.__call__" ⟨.ref C::us,kw⟩)):=
 ⟨r.hd,by have:=r.dp;rw[qQ1];lia,by have:=r.un;rw[qQ2];lia,by rw[qI2];exact r.gd⟩
theorem Room.depth{k:Nat}{A:Around}(r:Room k A):A.depth<recursionLimit:=by have:=r.dp;lia
theorem Room.units{k:Nat}{A:Around}(r:Room k A):A.units+64<cLine:=by have:=r.un;lia
def tNil:TA:=λ_ H Q=>Q [] H
def xo0(ta:TE)(tr:TA):TA:=λσ H Q=>ta σ H λx H1=>tr σ H1 λxs H2=>Q (x::xs) H2
section
variable{X:Cx}{e:Expr}{es:List Expr}{te:TE}{t:TA}{pos:Pos}
theorem qa2:PA X [] tNil:=λ_ _ _ _ H Q I h=>Calls.spliced_nil ⟨[],H,I,.nil,h⟩
theorem qa0(ha:PE X e te)(hr:PA X es t)(hs:starEach (e::es) X.env=(false,eval e X.env)::starEach es X.env:=by rfl):PA X (e::es) (xo0 te t):=by
 intro pos j1 s σ H Q I h;rw[hs];show wpAny _ _ (spliced ((false,eval e X.env)::backTo pos (starEach es X.env))) _ _ s;refine Calls.spliced_cons (thn (ha j1 s σ H _ I h) λu s1 ⟨x,H1,I1,r1,q1⟩=>?_);exact thn (hr pos j1 s1 σ H1 _ I1 q1) λus s2 ⟨xs,H2,I2,r2,q2⟩=>⟨x::xs,H2,I2,.cons r1 r2,q2⟩
def tTup(t:TA):TE:=λσ H Q=>t σ H λxs H1=>xs.length<=sizeLine/\∀p,H1 p=none->Q (.ref p) (upd H1 p (.tup xs))
def tLst(t:TA):TE:=λσ H Q=>t σ H λxs H1=>xs.length<=sizeLine/\∀p,H1 p=none->Q (.ref p) (upd H1 p (.lst xs))
theorem qc1 {x1} (h:PA X es t):PE X (.Tuple es x1 pos) (tTup t):=by
 intro j1 s σ H Q I hq;refine wpAny_Tuple_spliced (thn (h pos j1 s σ H _ I hq) λus s1 ⟨xs,H1,I1,r,z,q⟩=>⟨by rw[<- r.length];exact z,?_⟩);have hf:H1 s1.heap.objs.size=none:=I1.hok.fresh (Zf _);refine⟨.ref s1.heap.objs.size,upd H1 s1.heap.objs.size (.tup xs),I1.laid (t':=s1.toks) (λb u e=>Zc _ e) (Zf _) ?_,rfl,q _ hf⟩;exact⟨z,us,r,⟨_,Zj _ rfl,rfl,⟨_,rfl⟩,rfl⟩⟩
theorem qk8(h:PA X es t):PE X (.List es pos) (tLst t):=by
 intro j1 s σ H Q I hq;refine wpAny_List_spliced (thn (h pos j1 s σ H _ I hq) λus s1 ⟨xs,H1,I1,r,z,q⟩=>⟨by rw[<- r.length];exact z,?_⟩);have hf:H1 s1.heap.objs.size=none:=I1.hok.fresh (Zf _);refine⟨.ref s1.heap.objs.size,upd H1 s1.heap.objs.size (.lst xs),I1.laid (t':=s1.toks) (λb u e=>Zc _ e) (Zf _) ?_,rfl,q _ hf⟩;exact⟨z,us,0,r,Zj _ rfl⟩
end
abbrev Sp:=List V->Hp->VK->XK->Prop
abbrev CXT:=List Env->Hp->Shared->XK->Value->Shared->Prop
structure Env0(P:Program)(w:World)(K:PySem.W.Frag)(mg:Str->Option Value)(base:Heap)(A:Around)(outer:List Env)(s:Shared)(H:Hp):Prop where
 frames:A.frames=some outer
 mod:Mod K mg base
 bs:∀b o,base.get? b=some o->s.heap.get? b=some o/\H b=none
 bsz:base.objs.size<=s.heap.objs.size
 funs:s.heap.FunFrames base outer
 frf:∀b∈frs outer,H b=none
 hok:HOk P w H s.heap
 bare:AllBare s.gens
def CE(outer:List Env)(P:Program)(w:World)(H:Hp)(s:Shared)(Q:VK)(u:Value)(s':Shared):Prop:=
 ∃v H',s'.os=s.os/\AllBare s'.gens/\Un (frs outer) [] H H' s.heap s'.heap/\HOk P w H' s'.heap/\RelV v u/\Q v H'
def CR(CX:CXT)(outer:List Env)(P:Program)(w:World)(H:Hp)(s:Shared)(Q:VK)(E:XK)(r:Result)(s':Shared):Prop:=
 match r with
 |.ok (.ret u)=>CE outer P w H s Q u s'
 |.ok _=>False
 |.error e=>CX outer H s E e s'
structure FnOk(P:Program)(w:World)(K:PySem.W.Frag)(mg:Str->Option Value)(base:Heap)(CX:CXT)(k:Nat)(f:Addr)(fd:FuncData)(ps:List Str)(sp:Sp):Prop where
 len:∀vs H Q E,sp vs H Q E->vs.length=ps.length
 run:∀(A:Around)(outer:List Env)(s:Shared)(H:Hp)(args:Args)(us:List Value)(vs:List V)(Q:VK)(E:XK),Room k A->Env0 P w K mg base A outer s H->BindsTo s fd args (ps.zip us)->Vals vs us->sp vs H Q E ->
  codeAny (model P w) A (.call (.ref f) args) (CR CX outer P w H s Q E) s
theorem Env0.make{P:Program}{w:World}{K:PySem.W.Frag}{mg:Str->Option Value}{base:Heap}{A:Around}{outer:List Env}{s:Shared}{H:Hp}(e:Env0 P w K mg base A outer s H)(C:Addr)(us:List Value)(kw:List (Str×Value)) :
  Env0 P w K mg base (A.under (.builtin "type.__call__" ⟨.ref C::us,kw⟩)) outer s H:=⟨by first|exact e.frames|(simpa [Around.under,Code.envs,Code.isFrame,pushEnvs] using e.frames),e.mod,e.bs,e.bsz,e.funs,e.frf,e.hok,e.bare⟩
section
variable{X:Cx}{j1:List (Addr×Obj)}{σ:St}{H:Hp}{s s':Shared}
theorem Inv.env0(I:Inv X j1 σ H s):Env0 X.prog X.w X.K X.mg X.base X.A X.stack s H:=
 ⟨I.ok.frames,I.ok.mod,I.bs,ZH I.ok.bsz I.sz,I.stack,I.stkFree,I.hok,I.bare⟩
theorem Inv.after{Q:VK}{u:Value}(I:Inv X j1 σ H s)(h:CE X.stack X.prog X.w H s Q u s'):EP X j1 σ Q u s':=by
 obtain⟨v,H',os,bare,un,hok,r,q⟩:=h;obtain⟨hh,g,d,t,os'⟩:=s';obtain rfl:os'=s.os:=os;exact⟨v,H',I.call (h':=hh) (g':=g) (d':=d) (t':=t) (ch:=[]) un hok bare (λb z=>absurd z (by simp)),r,q⟩
end
def xo1(sp:Sp)(dvs:List V)(E:XK)(t:TA):TE:=λσ H Q=>t σ H λvs H1=>sp (vs++dvs) H1 Q E
inductive tMeth_(C:Addr)(m:Str)(sp:Sp)(dvs:List V)(E:XK)(t:TA)(σ:St)(Q:VK)(x:V)(H1:Hp):Prop
 |mk(a:_)(dx:_)(fs:_)(e0:x=.ref a)(e1:H1 a=some (.ins C dx fs))(e2:fs.lookup m=none)(e3:t σ H1 λvs H2=>sp (x::(vs++dvs)) H2 Q E)
def xv4(C:Addr)(m:Str)(sp:Sp)(dvs:List V)(E:XK)(ta:TE)(t:TA):TE:=λσ H Q=>ta σ H λx H1=>tMeth_ C m sp dvs E t σ Q x H1
def xv5(C:Addr)(sp:Sp)(dvs:List V)(E:XK)(t:TA):TE:=λσ H Q=>t σ H λvs H1=>∀x dx,H1 x=none->H1 dx=none->dx≠x ->
 sp (.ref x::(vs++dvs)) (upd (upd H1 dx (.own x)) x (.ins C dx [])) (λv H2=>v=.non/\Q (.ref x) H2) E
def Binds(K:PySem.W.Frag)(fd:FuncData)(ps:List Str)(ds:List Value):Prop:=
 ∀(s:Shared)(us:List Value),K.In s.heap->(us++ds).length=ps.length->BindsTo s fd ⟨us,[]⟩ (ps.zip (us++ds))
theorem Binds.all{K:PySem.W.Frag}{fd:FuncData}{ps:List Str}(h:∀us:List Value,us.length=ps.length->bindArgs fd ⟨us,[]⟩=pure (ps.zip us)):Binds K fd ps []:=λs us _ hl=>by
 rw[List.append_nil] at hl ⊢;exact .of_eq (h us hl)
def qx6(CX:CXT)(X:Cx)(E:XK):Prop:=∀(j1:List (Addr×Obj))(σ:St)(H:Hp)(s:Shared)(e:Value)(s':Shared),Inv X j1 σ H s->CX X.stack H s E e s'->X.xe e s'
section
variable{X:Cx}{CX:CXT}{k:Nat}{f C:Addr}{fd:FuncData}{ps:List Str}{sp:Sp}{dvs:List V}{ds:List Value}{E:XK}{x m:Str}{p pos apos:Pos}{e o:Expr}{es:List Expr}{ta:TE}{t:TA}
theorem xc7{j1:List (Addr×Obj)}{σ:St}{H:Hp}{s:Shared}{Q:VK}{us:List Value}{vs:List V}(F:FnOk X.prog X.w X.K X.mg X.base CX k f fd ps sp)(hr:Room k X.A)(hb:Binds X.K fd ps ds)(hd:Vals dvs ds)(hx:qx6 CX X E)
  (I:Inv X j1 σ H s) (r:Vals vs us) (h:sp (vs++dvs) H Q E):wpAny (model X.prog X.w) X.A (call (.ref f) us) (EP X j1 σ Q) X.xe s:=by
 have r2:Vals (vs++dvs) (us++ds):=r.append hd;have hl:(us++ds).length=ps.length:=by rw[<- r2.length];exact F.len _ _ _ _ h
 refine wpAny_call (We (F.run X.A X.stack s H ⟨us,[]⟩ (us++ds) (vs++dvs) Q E hr I.env0 (hb s us I.kIn hl) r2 h) λr s' hq=>?_);cases r with
 |error e=>exact hx j1 σ H s e s' I hq
 |ok fl=>
  cases fl with
  |ret u=>exact I.after hq
  |next=>exact False.elim hq
  |brk=>exact False.elim hq
  |cont=>exact False.elim hq
theorem qV2(F:FnOk X.prog X.w X.K X.mg X.base CX k f fd ps sp)(hr:Room k X.A)(hg:Gl X x)(hm:X.mg x=some (.ref f))(hk:PySem.W.keepIn X.K (.ref f)=true)(hb:Binds X.K fd ps ds)(hd:Vals dvs ds)(hx:qx6 CX X E)
  (ha:PA X (e::es) t) (kC:(x==("__debug__" : Str))=false:=by decide) (he:starEach (e::es) X.env=(false,eval e X.env)::starEach es X.env:=by rfl) (jF:(backTo pos (starEach es X.env)).any (·.1)=false:=by rfl) :
  PE X (.Call (.Name x p) (e::es) [] pos) (xo1 sp dvs E t):=by
 intro j1 s σ H Q I h;refine X2 (qI1 I hg hm ?_ kC);refine WJ (h₀:=X.base) I.ok.mod.kin hk (thn (ha pos j1 s σ H _ I h) λus s1 ⟨vs,H1,I1,r,q⟩=>⟨I1.kIn,?_⟩) he jF;exact xc7 F hr hb hd hx I1 r q
theorem qg6{pl:Sem Bool}(he:PE X o ta)(c:Cls X.K C)(hm:Meth X.K C m f)(F:FnOk X.prog X.w X.K X.mg X.base CX k f fd ps sp)(hr:Room k X.A)(hb:Binds X.K fd ps ds)(hd:Vals dvs ds)(hx:qx6 CX X E)(ha:PA X (e::es) t)
  (kR:starEach (e::es) X.env=(false,eval e X.env)::starEach es X.env:=by rfl) (jF:(backTo pos (starEach es X.env)).any (·.1)=false:=by rfl)
  (ht:eval (.Call (.Attribute o m apos) (e::es) [] pos) X.env=(do
   let ov <- eval o X.env
   standAt apos.atName
   let (f,first) <- holding [ov] (getMethod ov m pl)
   callWith pos f first (backTo pos (starEach (e::es) X.env)) (backToKw pos (keywordEach [] X.env))):=by rfl) :
  PE X (.Call (.Attribute o m apos) (e::es) [] pos) (xv4 C m sp dvs E ta t):=by
 intro j1 s σ H Q I h;refine PySem.W.methodCall_KW (pl:=pl) (thn (he j1 s σ H _ I h) λu s1 ⟨x,H1,I1,rx,a,dx,fs,ex,ea,l,q⟩=>?_) ht;subst ex;obtain rfl:u=Value.ref a:=rx;refine qP9 I1 ea c hm l ?_;refine WJ (first:=[.ref a]) (h₀:=X.base) I.ok.mod.kin hm.kp (thn (ha pos j1 s1 σ H1 _ I1 q) λus s2 ⟨vs,H2,I2,r,q2⟩=>⟨I2.kIn,?_⟩) kR jF;exact xc7 (us:=.ref a::us) (vs:=.ref a::vs) F hr hb hd hx I2 (.cons rfl r) q2
structure Mk(K:PySem.W.Frag)(C f:Addr):Prop where
 makes:PySem.W.makesIn K C=true
 init:PySem.W.findIn K (.ref C) "__init__" = some (some (.ref f))
 fn:PySem.W.isFn K (.ref f)=true
 kp:PySem.W.keepIn K (.ref C)=true
theorem q69{j1:List (Addr×Obj)}{σ:St}{H:Hp}{s:Shared}{Q:VK}{us:List Value}{vs:List V}(M:Mk X.K C f)(F:FnOk X.prog X.w X.K X.mg X.base CX k f fd ps sp)(hr:Room (k+1) X.A)(hb:Binds X.K fd ps ds)(hd:Vals dvs ds)
  (hx:qx6 CX X E) (I:Inv X j1 σ H s) (r:Vals vs us)
  (h:∀x dx,H x=none->H dx=none->dx≠x->sp (.ref x::(vs++dvs)) (upd (upd H dx (.own x)) x (.ins C dx [])) (λv H2=>v=.non/\Q (.ref x) H2) E) :
  wpAny (model X.prog X.w) X.A (call (.ref C) us) (EP X j1 σ Q) X.xe s:=by
 have hq:=h (s.heap.objs.size+1) s.heap.objs.size (I.hok.fresh (Vh _)) (I.hok.fresh (Zf _)) (ZB (ZL _));have I2:=Inv.made (C:=C) I;have r2:Vals (V.ref (s.heap.objs.size+1)::(vs++dvs)) (Value.ref (s.heap.objs.size+1)::(us++ds)):=.cons rfl (r.append hd);have hl:(Value.ref (s.heap.objs.size+1)::us++ds).length=ps.length:=by
  have e:=r2.length;rw[F.len _ _ _ _ hq] at e;exact e.symm
 refine wpAny_call (q68 (f:=f) I.kIn M.makes M.init (X1.mp M.fn) (We (F.run _ X.stack _ _ ⟨Value.ref (s.heap.objs.size+1)::us,[]⟩ (Value.ref (s.heap.objs.size+1)::(us++ds)) _ _ E (hr.make C us [])
  (I2.env0.make C us []) (hb _ (Value.ref (s.heap.objs.size+1)::us) I2.kIn hl) r2 hq) λr s' hq'=>?_))
 cases r with
 |error e=>exact hx j1 σ _ _ e s' I2 hq'
 |ok fl=>
  cases fl with
  |ret u=>
   obtain⟨v,H',I3,rv,ev,q3⟩:=I2.after hq';subst ev;exact⟨rv,⟨V.ref (s.heap.objs.size+1),H',I3,rfl,q3⟩⟩
  |next=>exact False.elim hq'
  |brk=>exact False.elim hq'
  |cont=>exact False.elim hq'
theorem qV3(M:Mk X.K C f)(F:FnOk X.prog X.w X.K X.mg X.base CX k f fd ps sp)(hr:Room (k+1) X.A)(hg:Gl X x)(hm:X.mg x=some (.ref C))(hb:Binds X.K fd ps ds)(hd:Vals dvs ds)(hx:qx6 CX X E)
  (ha:PA X (e::es) t) (kC:(x==("__debug__" : Str))=false:=by decide) (he:starEach (e::es) X.env=(false,eval e X.env)::starEach es X.env:=by rfl) (jF:(backTo pos (starEach es X.env)).any (·.1)=false:=by rfl) :
  PE X (.Call (.Name x p) (e::es) [] pos) (xv5 C sp dvs E t):=by
 intro j1 s σ H Q I h;refine X2 (qI1 I hg hm ?_ kC);refine WJ (h₀:=X.base) I.ok.mod.kin M.kp (thn (ha pos j1 s σ H _ I h) λus s1 ⟨vs,H1,I1,r,q⟩=>⟨I1.kIn,?_⟩) he jF;exact q69 M F hr hb hd hx I1 r q
end
section
variable{X:Cx}{CX:CXT}{k:Nat}{f C:Addr}{fd:FuncData}{ps ks:List Str}{sp:Sp}{E:XK}{x m:Str}{p pos apos kpos:Pos}{e o:Expr}{es:List Expr}{kws:List Keyword}{te ta:TE}{t tk:TA}{nm:Option Str}
variable{g:List Value->List Value->List Value}{gV:List V->List V->List V}
end
structure FnScope(N P:List Str)(sc:Scope):Prop where
 kind:sc.kind=.function
 co:sc.isCoroutine=false
 gen:sc.isGenerator=false
 nd:N.Nodup
 pre:N.take P.length=P
 par:∀x∈P,sc.names.lookup x=some .local\/sc.names.lookup x=some .cell
 nofree:∀y∈sc.names,y.2≠.free
theorem qD0{kindOf:Str->Option NameKind}{x:Str}:∀{binds:List (Str×Value)}{m:Str->Option Value},(∀v,(x,v)∉binds)->bindL kindOf binds m x=m x
 |[],_,_=>rfl
 |(n,v)::r,m,h=>by
  unfold bindL;rw[qD0 λw hw=>h w (Zn _ hw)];split
  ·have:x≠n:=by rintro rfl;exact h v Zu
   simp[this]
  ·rfl
theorem qD1{kindOf:Str->Option NameKind}{x:Str}:∀{binds:List (Str×Value)}{m:Str->Option Value},(∀v,(x,v)∉binds)->bindC kindOf binds m x=m x
 |[],_,_=>rfl
 |(n,v)::r,m,h=>by
  unfold bindC;rw[qD1 λw hw=>h w (Zn _ hw)];split
  ·rfl
  ·have:x≠n:=by rintro rfl;exact h v Zu
   simp[this]
theorem qD2{kindOf:Str->Option NameKind}{x:Str}{v:Value}:∀{P:List Str}{vs:List Value}{i:Nat}{m:Str->Option Value},P.Nodup->P[i]?=some x->vs[i]?=some v->kindOf x=some .local ->
  bindL kindOf (P.zip vs) m x=some v
 |[],_,_,_,_,h,_,_=>by simp at h
 |_::_,[],_,_,_,_,h,_=>by simp at h
 |p::P,w::vs,0,m,nd,h1,h2,hk=>by
  simp at h1 h2;subst h1;subst h2;show bindL kindOf ((p,w)::P.zip vs) m p=_;unfold bindL;rw[qD0 λv hv=>(Z9.mp nd).1 (Vd hv).1,Zm hk];simp
 |p::P,w::vs,i+1,m,nd,h1,h2,hk=>by
  show bindL kindOf ((p,w)::P.zip vs) m x=_;unfold bindL;exact qD2 (i:=i) (Z9.mp nd).2 (by simpa using h1) (by simpa using h2) hk
theorem qD3{kindOf:Str->Option NameKind}{x:Str}{v:Value}:∀{P:List Str}{vs:List Value}{i:Nat}{m:Str->Option Value},P.Nodup->P[i]?=some x->vs[i]?=some v->kindOf x≠some .local ->
  bindC kindOf (P.zip vs) m x=some v
 |[],_,_,_,_,h,_,_=>by simp at h
 |_::_,[],_,_,_,_,h,_=>by simp at h
 |p::P,w::vs,0,m,nd,h1,h2,hk=>by
  simp at h1 h2;subst h1;subst h2;show bindC kindOf ((p,w)::P.zip vs) m p=_;unfold bindC;rw[qD1 λv hv=>(Z9.mp nd).1 (Vd hv).1,Zh hk];simp
 |p::P,w::vs,i+1,m,nd,h1,h2,hk=>by
  show bindC kindOf ((p,w)::P.zip vs) m x=_;unfold bindC;exact qD3 (i:=i) (Z9.mp nd).2 (by simpa using h1) (by simpa using h2) hk
def start(N:List Str)(vs:List V):St:=vs.map some++List.replicate (N.length-vs.length) none
def cxOf(CX:CXT)(P:Program)(w:World)(K:PySem.W.Frag)(mg:Str->Option Value)(base:Heap)(N:List Str)(qual:Str)(scope:Scope)(f:Addr)(cd:Value)(A:Around)(outer:List Env)(s:Shared)(H:Hp)(E:XK):Cx where
 prog:=P
 w:=w
 K:=K
 mg:=mg
 base:=base
 A:=A.deeper (envOfC qual scope s.heap.objs.size f cd)
 N:=N
 s₀:=s
 H₀:=H
 env:=envOfC qual scope s.heap.objs.size f cd
 outer:=outer
 stack:=envOfC qual scope s.heap.objs.size f cd::outer
 ex:=[]
 calm:=true
 fn:=λ_=>true
 pn:=[]
 xe:=λe s'=>wpAny (model P w) (A.deeper (envOfC qual scope s.heap.objs.size f cd)) (leaving (envOfC qual scope s.heap.objs.size f cd) e) (λ_ s''=>CX outer H s E e s'') (λe' s''=>CX outer H s E e' s'') s'
theorem qL1{sc:Scope}{n:Nat}{x:Str}(h:sc.names.lookup x=some .cell):∃c,(cellsFrom n sc.names []).lookup x=some c:=by
 have q:=PySem.W.cellsFrom_some sc.names n [] (.inl h);exact Y5.mp q
theorem qV4{CX:CXT}{P:Program}{w:World}{K:PySem.W.Frag}{mg:Str->Option Value}{base:Heap}{N ps:List Str}{qual:Str}{scope:Scope}{f:Addr}{cd:Value}{A:Around}{outer:List Env}{s s1:Shared}{H:Hp}{E:XK}{us:List Value}{vs:List V}
  (S:FnScope N ps scope) (hd:A.handled=none) (e0:Env0 P w K mg base A outer s H) (hl:vs.length=ps.length) (r:Vals vs us)
  (x:InCallC s s.heap.objs.size (bindL (envOfC qual scope s.heap.objs.size f cd).kindOf (ps.zip us) λ_=>none) (cellsFrom (s.heap.objs.size+1) scope.names []) (bindC (envOfC qual scope s.heap.objs.size f cd).kindOf (ps.zip us) λ_=>none) s1) :
  Inv (cxOf CX P w K mg base N qual scope f cd A outer s H E) [] (start N vs) H s1:=by
 have jF:ps.length<=N.length:=by have:=ZQ List.length S.pre;rw[YO] at this;lia
 obtain⟨h1,tk,rfl,hk⟩:=x.done;have noA:∀b:Addr,b∉(cxOf CX P w K mg base N qual scope f cd A outer s H E).ex:=λb z=>absurd (show b∈([]:List Addr) from z) (by simp);refine⟨⟨e0.mod,S.kind,rfl,rfl,Zf _,λy z c h1 h2=>?_,λy hy=>?_,λy c _ h=>?_,λ_=>hd,Around.frames_deeper e0.frames,.inr ⟨rfl,rfl⟩,λb z=>absurd z (noA b),e0.bs,e0.bsz,λb _ _=>noA b,λb z=>absurd z (noA b),e0.funs,e0.frf⟩,
  rfl,e0.bare,Un.kept hk,⟨_,x.toInCall.ns,λi y v h1 h2 h3=>?_⟩,λy c h=>⟨_,x.cell y c h⟩,e0.hok.fresh (Zf _),λy c h=>?_,λp hp=>absurd (show p∈([]:List (Addr×Obj)) from hp) (by simp),e0.hok.kept hk,?_⟩
 ·exact name_of_addr x.apart (Xd h1) (Xd h2)
 ·have hy:scope.names.lookup y=some .cell\/scope.names.lookup y=some .free:=hy;rcases hy with hy|hy
  ·exact qL1 hy
  ·exact absurd rfl (S.nofree _ (Xd hy))
 ·exact Wc (x.above y c (Xd h))
 ·have hi:i<vs.length:=by
   unfold start at h2;by_cases hi:i<vs.length
   ·exact hi
   ·rw[Zk (by simpa using hi)] at h2;rw[List.getElem?_replicate] at h2;split at h2<;>cases h2
  have ha:vs[i]?=some v:=by
   unfold start at h2;rw[Zo (by simpa using hi),Zg] at h2;cases e:vs[i]? with
   |none=>rw[e] at h2;cases h2
   |some a=>rw[e] at h2;cases h2;rfl
  obtain⟨u,hu,rv⟩:=r.get ha;have hp:ps[i]?=some y:=by
   rw[<- S.pre,List.getElem?_take_of_lt (by lia)];exact h1
  have ndP:ps.Nodup:=by rw[<- S.pre];exact S.nd.sublist (List.take_sublist _ _)
  refine⟨u,rv,?_⟩;rcases S.par y (Zy hp) with k|k
  ·exact .inl ⟨k,qD2 ndP hp hu k⟩
  ·obtain⟨c,e⟩:=qL1 (n:=s.heap.objs.size+1) k;refine .inr ⟨.inl k,c,e,?_⟩;have q:=x.cell y c e;rw[qD3 ndP hp hu (by show scope.names.lookup y≠_;rw[k];decide)] at q;exact q
 ·exact e0.hok.fresh (Wc (x.above y c (Xd h)))
 ·unfold start;show _=N.length;rw[Zi,Ze,List.length_replicate];lia
theorem xv6{CX:CXT}{P:Program}{w:World}{K:PySem.W.Frag}{mg:Str->Option Value}{base:Heap}{k:Nat}{f:Addr}{name qual:Str}{params:Arguments}{body:List Stmt}{scope:Scope}{dV kV doc pm cdv ct oc:Value}{an od:Option Addr}
  {osl:Array (Option Value)}{N ps:List Str}{sp:Sp}(lk:K.lookup f=some ⟨oc,od,.func (PySem.W.fnOf name qual params body scope dV kV doc pm an cdv ct),osl⟩) (k5:PySem.W.codeIn K cdv qual=true) (S:FnScope N ps scope)
  (len:∀vs H Q E,sp vs H Q E->vs.length=ps.length)
  (hbody:∀(A:Around)(outer:List Env)(s:Shared)(H:Hp)(vs:List V)(Q:VK)(E:XK),Room k (A.deeper (envOfC qual scope s.heap.objs.size f cdv))->sp vs H Q E ->
   ∃t,PSs (cxOf CX P w K mg base N qual scope f cdv A outer s H E) body t/\t { nx:=λ_ H'=>Q .non H',rt:=Q } (start N vs) H) :
  FnOk P w K mg base CX (k+1) f (PySem.W.fnOf name qual params body scope dV kV doc pm an cdv ct) ps sp:=by
 refine⟨len,λA outer s H args us vs Q E hr e0 hb r kI=>?_⟩;have hl:=len _ _ _ _ kI;have KX:K.In s.heap:=e0.mod.kin.keeps λb o e=>(e0.bs b o e).1;have lim:s.heap.NoLimit:=e0.mod.nolimit.keeps λb o e=>(e0.bs b o e).1;have j7:∀y∈ps.zip us,scope.names.lookup y.1=some .local\/(scope.names.lookup y.1=some .cell/\((cellsFrom (s.heap.objs.size+1) scope.names []).lookup y.1).isSome=true):=λ⟨n,v⟩ hy=>by
  rcases S.par n (Vd hy).1 with q|q
  ·exact .inl q
  ·exact .inr ⟨q,PySem.W.cellsFrom_some _ _ _ (.inl q)⟩
 refine codeAny_call_function hr.depth (KX _ _ lk) rfl S.co S.gen rfl (PySem.W.codeRec_of KX k5) (hb _ _ _ _ ?_);refine wpAny_newFunctionEnv_cells S.kind j7 λenv he s1 x=>?_;subst he;refine⟨lim.keeps x.toInCall.keep,codeAny_func ?_⟩;obtain⟨t,ht,hq⟩:=hbody A outer s H vs Q E (hr.deeper _) kI;have I:Inv (cxOf CX P w K mg base N qual scope f cdv A outer s H E) [] (start N vs) H s1:=qV4 S hr.hd e0 hl r x;refine Yu (ht [] s1 (start N vs) H _ I hq) (λfl s' hs=>?_) λe s' hs=>hs;have fin:∀{σ':St}{H':Hp}{v:V}{u:Value},Inv (cxOf CX P w K mg base N qual scope f cdv A outer s H E) [] σ' H' s'->RelV v u->Q v H'->CE outer P w H s Q u s':=
  λ{σ' H' v u} J rv q=>⟨v,H',J.os,J.bare,J.base,J.hok,rv,q⟩
 cases fl with
 |ret u=>
  obtain⟨v,σ',H',J,rv,q⟩:=hs;exact fin J rv q
 |next=>
  obtain⟨σ',H',J,q⟩:=hs;exact fin (v:=V.non) (u:=Value.none) J rfl q
 |brk=>
  obtain⟨_,_,_,q⟩:=hs;exact False.elim q
 |cont=>
  obtain⟨_,_,_,q⟩:=hs;exact False.elim q
section
variable{X:Cx}{x:Str}{p pos:Pos}{e:Expr}{es:List Expr}{t:TA}{id T:String}{r:List V->Hp->VK->Prop}
def tCB(r:List V->Hp->VK->Prop)(t:TA):TE:=λσ H Q=>t σ H λvs H1=>r vs H1 Q
theorem qa8(hc:qg4 X (.builtin id) r)(hg:Gl X x)(hm:X.mg x=none)(hv:bootBuiltins x=some (.builtin id))(ha:PA X (e::es) t)(hn:x ≠ "__name__":=by decide)(kC:(x==("__debug__" : Str))=false:=by decide)
  (he:starEach (e::es) X.env=(false,eval e X.env)::starEach es X.env:=by rfl) (jF:(backTo pos (starEach es X.env)).any (·.1)=false:=by rfl):PE X (.Call (.Name x p) (e::es) [] pos) (tCB r t):=by
 intro j1 s σ H Q I h;refine X2 (qx5 I hg hm hv ?_ hn kC);exact PyProof.Rows.callWith_builtin1 (thn (ha pos j1 s σ H _ I h) λus s1 ⟨vs,H1,I1,r1,q1⟩=>hc j1 s1 σ H1 vs us Q I1 r1 q1) he jF
theorem qc3(hc:qg4 X (.type T) r)(hg:Gl X x)(hm:X.mg x=none)(hv:bootBuiltins x=some (.type T))(ha:PA X (e::es) t)(hn:x ≠ "__name__":=by decide)(kC:(x==("__debug__" : Str))=false:=by decide)
  (he:starEach (e::es) X.env=(false,eval e X.env)::starEach es X.env:=by rfl) (jF:(backTo pos (starEach es X.env)).any (·.1)=false:=by rfl):PE X (.Call (.Name x p) (e::es) [] pos) (tCB r t):=by
 intro j1 s σ H Q I h;refine X2 (qx5 I hg hm hv ?_ hn kC);exact YM (thn (ha pos j1 s σ H _ I h) λus s1 ⟨vs,H1,I1,r1,q1⟩=>hc j1 s1 σ H1 vs us Q I1 r1 q1) he jF
end
end L2
namespace HT
open PySem PyProof.Rows
section
open PySem.SeqAt
open PySem.AutoSeq1 (wpAny_loadPart')
open PySem.MeetsSeq PySem.MeetsSeq2 PySem.MeetsSeq3
end
section
variable{prog:Program}{w:World}{A:Around}{E:Value->Shared->Prop}{s:Shared}
theorem cat_tup{t b:Addr}{vs ws:List Value}{Q:Value->Shared->Prop}(ht:IsTup s.heap t vs.toArray)(hb:IsTup s.heap b ws.toArray)(hv:vs≠[])
  (h1:ws=[]->Q (.ref t) s) (h2:ws≠[]->Q (.ref s.heap.objs.size) { s with heap:=s.heap.push { cls:=.type "tuple",data:=.seq (vs++ws).toArray } })
  (hsz:vs.length+ws.length<=sizeLine):wpAny (model prog w) A (binaryOp .Add (.ref t) (.ref b)) Q E s:=by
 obtain⟨⟨cls,dd,data,sl⟩,ho,hc,n,hd⟩:=id ht;obtain⟨⟨cls2,dd2,data2,sl2⟩,k8,hc2,n2,jD⟩:=id hb;simp only at hc hd hc2 jD;subst hc hd hc2 jD;have e:vs.toArray++ws.toArray=(vs++ws).toArray:=by simp
 by_cases hw:ws=[]
 ·exact concat_meets ⟨_,ho,rfl⟩ ⟨_,k8,rfl⟩ noFill_tuple_add seq_tuple_add Wf Wa (XO _ _)
   (tuple_addW1 t b vs.toArray ws.toArray n n2 dd dd2 sl sl2 (by simpa using hv) (by simp[hw])) ⟨ho,k8,h1 hw⟩
 ·refine concat_meets ⟨_,ho,rfl⟩ ⟨_,k8,rfl⟩ noFill_tuple_add seq_tuple_add Wf Wa (XO _ _)
   (tuple_addW2 t b vs.toArray ws.toArray n n2 dd dd2 sl sl2 (by simpa using hv) (by simpa using hw) (by rw[ZA,ZA];exact hsz)) ⟨ho,k8,?_⟩
  rw[e];exact h2 hw
def sIx(n d:Nat):Option Int->Nat
 |none=>d
 |some v=>if v<0 then (v+(n:Int)).toNat else min v.toNat n
theorem xo2(n d:Nat)(hd:d<=n)(o:Option Int):sIx n d o<=n:=by
 cases o with
 |none=>exact hd
 |some v=>
  show (if v<0 then (v+(n:Int)).toNat else min v.toNat n)<=n;by_cases hv:v<0
  ·rw[Zm hv];lia
  ·rw[Zh hv];exact Nat.min_le_right _ _
theorem qV5(v:Int)(n d:Nat):(if v<0 then max (v+(n:Int)) 0 else min v (n:Int))=((sIx n d (some v):Nat):Int):=by
 show (if v<0 then max (v+(n:Int)) 0 else min v (n:Int))=(((if v<0 then (v+(n:Int)).toNat else min v.toNat n):Nat):Int);by_cases hv:v<0
 ·simp only[Zm hv];lia
 ·simp only[Zh hv];lia
theorem qQ3(lo hi:Option Int)(n:Nat):Builtin.Slice.sliceAdjust lo hi 1 (n:Int)=(((sIx n 0 lo:Nat):Int),((sIx n n hi:Nat):Int)):=by
 have h1:¬((1:Int)<0):=by lia
 unfold Builtin.Slice.sliceAdjust;simp only[h1,ZP];refine YJ ?_ ?_
 ·cases lo with
  |none=>rfl
  |some v=>exact qV5 v n 0
 ·cases hi with
  |none=>rfl
  |some v=>exact qV5 v n n
theorem qQ4(i j:Nat):Builtin.Slice.slicePlaces (i:Int) (j:Int) 1=j-i:=by
 unfold Builtin.Slice.slicePlaces;have h1:(1:Int)>0:=by lia
 simp only[h1,Yt,Int.ediv_one];split<;>lia
theorem qx7{v:Value}{o:Option Int}{Q:Option Int->Shared->Prop}(p:IsPart v o)(h:Q o s):wpAny (model prog w) A (Builtin.Slice.slicePartIndex v) Q E s:=by
 cases p with
 |none=>exact slicePart_none h
 |int i t=>exact slicePart_int h
theorem sliceApplied_gen{sl:Addr}{vl vu:Value}{lo hi:Option Int}{n:Nat}{Q:Int×Int×Nat->Shared->Prop}(hs:s.heap.IsSliceOf sl vl vu .none)(pl:IsPart vl lo)(pu:IsPart vu hi)
  (h:Q (((sIx n 0 lo:Nat):Int),1,sIx n n hi-sIx n 0 lo) s):wpAny (model prog w) A (Builtin.Slice.sliceApplied (.ref sl) (pure (n:Int))) Q E s:=by
 obtain⟨os,kJ,hcs,jZ⟩:=id hs;unfold Builtin.Slice.sliceApplied Builtin.Slice.sliceFields;refine Za (Za (Ys kJ jZ (x:=vl) rfl (Za (Ys kJ jZ (x:=vu) rfl (Za (Ys kJ jZ (x:=.none) rfl (Zb ?_)))))));refine Za (slicePart_none ?_);show wpAny _ _ (if ((1:Int)==0)=true then _ else _) _ _ s;rw[Zh (by decide)];refine Za (qx7 pl (Za (qx7 pu (Za (Zb ?_)))));show wpAny _ _ (match Builtin.Slice.sliceAdjust lo hi 1 (n:Int) with|(lo,hi)=>pure (lo,(1:Int),Builtin.Slice.slicePlaces lo hi 1)) _ _ s;rw[qQ3 lo hi n];show wpAny _ _ (pure (((sIx n 0 lo:Nat):Int),(1:Int),Builtin.Slice.slicePlaces ((sIx n 0 lo:Nat):Int) ((sIx n n hi:Nat):Int) 1)) _ _ s;rw[qQ4];exact Zb h
theorem q70(xs:Array Value)(i k:Nat):((List.range k).filterMap λ(m:Nat)=>xs[((i:Int)+(m:Int)*1).toNat]?).toArray=((xs.toList.drop i).take k).toArray:=by
 have e:(λ(m:Nat)=>xs[((i:Int)+(m:Int)*1).toNat]?)=λm=>xs[i+m]?:=by
  funext m;have:((i:Int)+(m:Int)*1).toNat=i+m:=by lia
  rw[this]
 rw[e];have:=pick_run xs i k;rw[List.filterMap_map] at this;have e2:((λx=>xs[x]?)∘λx=>i+x)=λm=>xs[i+m]?:=rfl;rw[e2] at this;rw[this]
theorem getItem_tuple_cut{t sl:Addr}{items:Array Value}{vl vu:Value}{lo hi:Option Int}{Q:Value->Shared->Prop}(ht:IsTup s.heap t items)(hs:s.heap.IsSliceOf sl vl vu .none)(pl:IsPart vl lo)(pu:IsPart vu hi)
  (hw:¬(sIx items.size 0 lo=0/\sIx items.size items.size hi=items.size))
  (h:Q (.ref s.heap.objs.size) { s with heap:=s.heap.push { cls:=.type "tuple",data:=.seq ((items.toList.drop (sIx items.size 0 lo)).take (sIx items.size items.size hi-sIx items.size 0 lo)).toArray } })
  (hsz:items.size<=sizeLine):wpAny (model prog w) A (getItem (.ref t) (.ref sl)) Q E s:=by
 have htake:sizeOk (.seq ((items.toList.drop (sIx items.size 0 lo)).take (sIx items.size items.size hi-sIx items.size 0 lo)).toArray):=by
  show ((items.toList.drop (sIx items.size 0 lo)).take (sIx items.size items.size hi-sIx items.size 0 lo)).toArray.size<=sizeLine;rw[ZA,YO,List.length_drop,Z6];lia
 have hj:sIx items.size items.size hi<=items.size:=xo2 _ _ (Zf _) hi;obtain⟨os,kJ,hcs,jZ⟩:=id hs;have hTs:s.TypeIs (.ref sl) "slice":=⟨os,kJ,hcs⟩;unfold getItem
 try with_reducible refine Z3 ?_
 first|refine Za (Zb ?_)|skip
 refine Za (wpAny_sequenceKey ht.typeIs (by decide) ?_);refine Za (ZV (name:=Str.ofString "__getitem__") ht.typeIs ZZ
  (Z1 ZZ ht.typeIs entry_tuple_getitem ?_ (args_tuple_getitem _ _)))
 show wpAny _ _ (Builtin.Tuple.tupleItemsOf (.ref t) >>= _) _ _ s;refine Za (tupleItemsOf_ ht ?_);refine Za (WG hTs ?_);rw[Zm (by decide)];refine Za (sliceApplied_gen hs pl pu ?_);have hno:¬((((sIx items.size 0 lo:Nat):Int)==0&&(1:Int)==1&&(sIx items.size items.size hi-sIx items.size 0 lo)==items.size)=true):=by
  intro q;rw[Wp,Wp] at q;have q1:((sIx items.size 0 lo:Nat):Int)=0:=eq_of_beq q.1.1;have q2:sIx items.size items.size hi-sIx items.size 0 lo=items.size:=eq_of_beq q.2;exact hw ⟨by lia,by lia⟩
 show wpAny _ _ (if (((sIx items.size 0 lo:Nat):Int)==0&&(1:Int)==1&&(sIx items.size items.size hi-sIx items.size 0 lo)==items.size)=true then _ else _) _ _ s;rw[Zh hno,q70]
 first
  |exact Za (m:=Builtin.Tuple.tupleExact _) (ZY (Zb ⟨_,rfl,Zb h⟩) htake)
  |exact Za (m:=Builtin.Tuple.tupleExact _) (ZY (Za (Zb (Zb ⟨_,rfl,Zb h⟩))) htake)
  |exact Za (Za (m:=Builtin.Tuple.tupleExact _) (ZY (Zb (Zb ⟨_,rfl,Zb h⟩)) htake))
  |exact Za (Za (m:=Builtin.Tuple.tupleExact _) (ZY (Zb ⟨_,rfl,Zb h⟩) htake))
end
end HT
namespace L2
open PySem PySem.Spec PyProof.Rows
abbrev TO:=St->Hp->(Option Int->Hp->Prop)->Prop
def PO(X:Cx)(e:Option Expr)(t:TO):Prop:=
 ∀(j1:List (Addr×Obj))(s:Shared)(σ:St)(H:Hp)(Q:Option Int->Hp->Prop),Inv X j1 σ H s->t σ H Q ->
  wpAny (model X.prog X.w) X.A (evalPart e X.env) (λu s'=>∃o H',Inv X j1 σ H' s'/\IsPart u o/\Q o H') X.xe s
def xg2:TO:=λ_ H Q=>Q none H
def xv7(t:TE):TO:=λσ H Q=>t σ H λx H1=>∃i,x=.int i/\Q (some i) H1
section
variable{X:Cx}{e:Expr}{te:TE}{lo hi:Option Expr}{tl th:TO}{pos p2:Pos}
theorem qz3:PO X none xg2:=by
 intro j1 s σ H Q I h;rw[evalPart_none];exact Zb ⟨none,H,I,.none,h⟩
theorem qz4(h:PE X e te):PO X (some e) (xv7 te):=by
 intro j1 s σ H Q I hw;rw[evalPart_some];refine thn (h j1 s σ H _ I hw) λu s1 ⟨x,H1,I1,r1,q1⟩=>?_;obtain⟨i,rfl,q⟩:=q1;obtain⟨t,rfl⟩:=r1;exact⟨some i,H1,I1,.int i t,q⟩
def SlR(X:Cx)(r:V->Option Int->Option Int->Hp->VK->Prop):Prop:=
 ∀(j1:List (Addr×Obj))(s:Shared)(σ:St)(H:Hp)(x:V)(v vl vu:Value)(lo hi:Option Int)(sl:Addr)(Q:VK),Inv X j1 σ H s->RelV x v->s.heap.IsSliceOf sl vl vu .none->IsPart vl lo->IsPart vu hi->r x lo hi H Q ->
  ∃T id,typeLookup (.type T) "__getitem__" = pure (some (.builtin id))/\s.TypeIs v T/\wpAny (model X.prog X.w) X.A (getItem v (.ref sl)) (EP X j1 σ Q) X.xe s
def tSl(r:V->Option Int->Option Int->Hp->VK->Prop)(te:TE)(tl th:TO):TE:=λσ H Q=>te σ H λx H1=>tl σ H1 λl H2=>th σ H2 λu H3=>r x l u H3 Q
theorem qr8{r:V->Option Int->Option Int->Hp->VK->Prop}(hr:SlR X r)(he:PE X e te)(hl:PO X lo tl)(hu:PO X hi th):PE X (.Subscript e (.Slice lo hi none p2) pos) (tSl r te tl th):=by
 intro j1 s σ H Q I h;refine Subscript_ (thn (he j1 s σ H _ I h) λv s1 ⟨x,H1,I1,r1,q1⟩=>?_);refine wpAny_Slice (thn (hl j1 s1 σ H1 _ I1 q1) λvl s2 ⟨l,H2,I2,pl,q2⟩=>thn (hu j1 s2 σ H2 _ I2 q2) λvu s3 ⟨u,H3,I3,pu,q3⟩=>?_);rw[evalPart_none];refine Zb ?_;have I4:Inv X j1 σ H3 { s3 with heap:=s3.heap.push { cls:=.type "slice",data:=.fields #[vl,vu,.none] } }:=I3.kept (t':=s3.toks) λb ob q=>Zc _ q;obtain⟨T,id,hT,ht,hg⟩:=hr j1 { s3 with heap:=s3.heap.push { cls:=.type "slice",data:=.fields #[vl,vu,.none] } } σ H3 x v vl vu l u s3.heap.objs.size Q I4 r1 (Heap.IsSliceOf.new ..) pl pu q3;show wpAny (model X.prog X.w) X.A (subscriptTail e (.Slice lo hi none p2) v (.ref s3.heap.objs.size)) (EP X j1 σ Q) X.xe { s3 with heap:=s3.heap.push { cls:=.type "slice",data:=.fields #[vl,vu,.none] } };exact tail_any (ops:=[.ref s3.heap.objs.size,v]) ht hT hg (by with_unfolding_all rfl)
def cutV(xs:List V)(lo hi:Option Int):List V:=(xs.drop (HT.sIx xs.length 0 lo)).take (HT.sIx xs.length xs.length hi-HT.sIx xs.length 0 lo)
theorem qI3(xs:List V)(lo hi:Option Int):(cutV xs lo hi).length<=xs.length:=by
 unfold cutV;rw[YO,List.length_drop];lia
def rSlT(K:PySem.W.Frag):V->Option Int->Option Int->Hp->VK->Prop:=λx lo hi H Q=>∃a xs,x=.ref a/\SqT K H a xs /\
 ¬(HT.sIx xs.length 0 lo=0/\HT.sIx xs.length xs.length hi=xs.length)/\∀p,H p=none->Q (.ref p) (upd H p (.tup (cutV xs lo hi)))
theorem qV6:SlR X (rSlT X.K):=by
 intro j1 s σ H x v vl vu lo hi sl Q I rx hs pl pu h;obtain⟨a,xs,rfl,hx,hw,q⟩:=h;cases rx;obtain⟨its,r,ht,hz⟩:=I.tuple hx;have j2:its.toArray.size=xs.length:=by rw[ZA];exact r.length.symm
 refine⟨"tuple",_,ZZ.lookup,ht.typeIs,?_⟩;refine HT.getItem_tuple_cut ht hs pl pu (by rw[j2];exact hw) ?_ (by rw[j2];exact hz);rw[j2];refine⟨.ref s.heap.objs.size,_,I.laid (t':=s.toks) (o:=.tup (cutV xs lo hi)) (λb ob q=>Zc _ q) (Zf _) ?_,rfl,q _ (I.hok.fresh (Zf _))⟩;exact⟨ZH (qI3 xs lo hi) hz,_,(r.drop (HT.sIx xs.length 0 lo)).take (HT.sIx xs.length xs.length hi-HT.sIx xs.length 0 lo),IsTupX.new _ _⟩
def xv8(K:PySem.W.Frag):R2:=λx y H Q=>∃a b xs ys,x=.ref a/\y=.ref b/\SqT K H a xs/\SqT K H b ys/\xs≠[]/\xs.length+ys.length<=sizeLine /\
 (ys=[]->Q (.ref a) H)/\(ys≠[]->∀p,H p=none->Q (.ref p) (upd H p (.tup (xs++ys))))
theorem Vals.nil_iff{xs:List V}{us:List Value}(r:Vals xs us):us=[]<->xs=[]:=by
 cases r with
 |nil=>simp
 |cons _ _=>simp
theorem xg3:OpR X (binaryOp .Add) (xv8 X.K):=by
 intro j1 s σ H x y v u Q I rx ry h;obtain⟨a,b,xs,ys,rfl,rfl,ha,hb,hx,hz,q1,q2⟩:=h;cases rx;cases ry;obtain⟨its,r1,p1,_⟩:=I.tuple ha;obtain⟨its2,r2,p2,_⟩:=I.tuple hb;refine HT.cat_tup p1 p2 (λz=>hx (r1.nil_iff.mp z)) (λz=>⟨.ref a,H,I,rfl,q1 (r2.nil_iff.mp z)⟩) (λz=>?_) (by rw[<- r1.length,<- r2.length];exact hz);refine⟨.ref s.heap.objs.size,_,I.laid (t':=s.toks) (o:=.tup (xs++ys)) (λb ob q=>Zc _ q) (Zf _) ?_,rfl,q2 (λw=>z (r2.nil_iff.mpr w)) _ (I.hok.fresh (Zf _))⟩;exact⟨by rw[Zi];exact hz,_,r1.append r2,IsTupX.new _ _⟩
end
def ixN(n:Nat)(i:Int):Option Nat:=if 0<=i then (if i<n then some i.toNat else none) else if -(n:Int)<=i then some (i+n).toNat else none
def atI{α:Type}(xs:List α)(i:Int):Option α:=(ixN xs.length i).bind λj=>xs[j]?
theorem qV7{n:Nat}{i:Int}{j:Nat}(h:ixN n i=some j):seqIndex? i n=some j/\j<n/\-(n:Int)<=i/\i<n:=by
 unfold ixN at h;by_cases h0:0<=i
 ·rw[Zm h0] at h;by_cases h1:i<n
  ·rw[Zm h1] at h;have e:i.toNat=j:=ZC h;exact⟨by rw[seqIndex_of h0 h1,e],by lia,by lia,h1⟩
  ·rw[Zh h1] at h;cases h
 ·rw[Zh h0] at h;by_cases h1:-(n:Int)<=i
  ·rw[Zm h1] at h;have e:(i+n).toNat=j:=ZC h;exact⟨by rw[seqIndex_neg (by lia) h1,e],by lia,h1,by lia⟩
  ·rw[Zh h1] at h;cases h
theorem qI4{α:Type}{xs:List α}{i:Int}{v:α}(h:atI xs i=some v):∃j,seqIndex? i xs.length=some j/\xs[j]?=some v/\j<xs.length/\-(xs.length:Int)<=i/\i<xs.length:=by
 unfold atI at h;cases e:ixN xs.length i with
 |none=>rw[e] at h;cases h
 |some j=>
  rw[e] at h;obtain⟨h1,h2,h3,h4⟩:=qV7 e;exact⟨j,h1,h,h2,h3,h4⟩
theorem qg7{α:Type}{xs:List α}{j:Nat}{v:α}(h:xs[j]?=some v):atI xs (j:Int)=some v:=by
 have hj:j<xs.length:=(gS_ h).1;have e:ixN xs.length (j:Int)=some j:=by
  unfold ixN;rw[Zm (by lia),Zm (by lia)];simp
 unfold atI;rw[e];exact h
def qV8(b:Expr):Prop:=∀o i,subscripted b false o i=operate [o,i] (getItem o i)
def IxR(X:Cx)(r:R2):Prop:=
 ∀(value slice:Expr)(j1:List (Addr×Obj))(s:Shared)(σ:St)(H:Hp)(x y:V)(v u:Value)(Q:VK),Inv X j1 σ H s->RelV x v->RelV y u->r x y H Q ->
  subscripted slice false v u=operate [v,u] (getItem v u)->wpAny (model X.prog X.w) X.A (subscriptTail value slice v u) (EP X j1 σ Q) X.xe s
def MtR(X:Cx)(id:String)(r:V->List V->Hp->VK->Prop):Prop:=
 ∀(j1:List (Addr×Obj))(s:Shared)(σ:St)(H:Hp)(x:V)(xs:List V)(v:Value)(us:List Value)(Q:VK),Inv X j1 σ H s->RelV x v->Vals xs us->r x xs H Q ->
  wpAny (model X.prog X.w) X.A (call (.builtin id) (v::us)) (EP X j1 σ Q) X.xe s
section
variable{X:Cx}{a b:Expr}{ta tb:TE}{pos:Pos}
theorem IxR.or{r r':R2}(h:IxR X r)(h':IxR X r'):IxR X (λx y H Q=>r x y H Q\/r' x y H Q):=by
 intro value slice j1 s σ H x y v u Q I rx ry q hs;rcases q with q|q
 ·exact h value slice j1 s σ H x y v u Q I rx ry q hs
 ·exact h' value slice j1 s σ H x y v u Q I rx ry q hs
theorem xv9{r:R2}(hr:IxR X r)(ha:PE X a ta)(hb:PE X b tb)(hs:qV8 b):PE X (.Subscript a b pos) (tOp r ta tb):=by
 intro j1 s σ H Q I h;exact Subscript_ (binT ha hb I h λv u s2 x y H2 I2 rx ry q=>hr a b j1 s2 σ H2 x y v u Q I2 rx ry q (hs _ _))
inductive rIxL_(K:PySem.W.Frag)(x y:V)(H:Hp)(Q:VK):Prop
 |mk(p:_)(xs:_)(i:_)(v:_)(e0:x=.ref p)(e1:y=.int i)(e2:SqL K H p xs)(e3:atI xs i=some v)(e4:Q v H)
def rIxL(K:PySem.W.Frag):R2:=λx y H Q=>rIxL_ K x y H Q
inductive rIxT_(K:PySem.W.Frag)(x y:V)(H:Hp)(Q:VK):Prop
 |mk(p:_)(xs:_)(i:_)(v:_)(e0:x=.ref p)(e1:y=.int i)(e2:SqT K H p xs)(e3:atI xs i=some v)(e4:Q v H)
def rIxT(K:PySem.W.Frag):R2:=λx y H Q=>rIxT_ K x y H Q
inductive rIxS_(x y:V)(H:Hp)(Q:VK):Prop
 |mk(z:_)(i:_)(c:_)(e0:x=.str z)(e1:y=.int i)(e2:z.length<=sizeLine)(e3:atI z.cps.toList i=some c)(e4:Q (.str ⟨#[c]⟩) H)
def rIxS:R2:=λx y H Q=>rIxS_ x y H Q
theorem ix_list:IxR X (rIxL X.K):=by
 intro value slice j1 s σ H x y v u Q I rx ry h hs;obtain⟨p,xs,i,z,rfl,rfl,hq,he,q⟩:=h;cases rx;obtain⟨t,rfl⟩:=ry;obtain⟨its,r,pl,hz⟩:=I.list hq;obtain⟨j,h1,h2,h3,h4,h5⟩:=qI4 he;obtain⟨w,ew,rw'⟩:=r.get h2;have hl:=r.length;have hn:=qC8;have fin:EP X j1 σ Q w s:=⟨z,H,I,rw',q⟩;by_cases h0:0<=i
 ·have hj:i.toNat=j:=by
   rw[seqIndex_of h0 h5] at h1;exact ZC h1
  exact item_listR pl.isList h0 (by lia) (by rw[hj];simpa using ew) fin hs
 ·have hj:(i+(its.toArray.size:Int)).toNat=j:=by
   rw[seqIndex_neg (by lia) h4] at h1;rw[ZA,<- hl];exact ZC h1
  exact Wg (x:=w) pl.isList.typeIs slot_list_getitem.lookup
   (wpAny_getItem_list_neg (Q:=λr s'=>r=w/\EP X j1 σ Q r s') pl.isList (by lia) (by rw[ZA]<;>lia) (by lia) (by rw[hj];simpa using ew) ⟨rfl,fin⟩) hs
theorem ix_tup:IxR X (rIxT X.K):=by
 intro value slice j1 s σ H x y v u Q I rx ry h hs;obtain⟨p,xs,i,z,rfl,rfl,hq,he,q⟩:=h;cases rx;obtain⟨t,rfl⟩:=ry;obtain⟨its,r,pl,hz⟩:=I.tuple hq;obtain⟨j,h1,h2,h3,h4,h5⟩:=qI4 he;obtain⟨w,ew,rw'⟩:=r.get h2;have hl:=r.length;have hn:=qC8;have fin:EP X j1 σ Q w s:=⟨z,H,I,rw',q⟩;exact Wg (x:=w) pl.typeIs slot_tuple_getitem.lookup
  (getItem_tuple (j:=j) (Q:=λr s'=>r=w/\EP X j1 σ Q r s') pl (by lia) (by lia) (by rw[ZA,<- hl];exact h1) (by simpa using ew) ⟨rfl,fin⟩) hs
theorem xo3:IxR X rIxS:=by
 intro value slice j1 s σ H x y v u Q I rx ry h hs;obtain⟨z,i,c,rfl,rfl,hz,he,q⟩:=h;obtain⟨t,rfl⟩:=rx;obtain⟨t',rfl⟩:=ry;obtain⟨j,h1,h2,h3,h4,h5⟩:=qI4 he;have hl:z.cps.toList.length=z.length:=by simp[Str.length]
 rw[hl] at h1 h4 h5;have hn:=qC8;exact tail_any (typeIs_str s z t) slot_str_getitem.lookup (getItem_str (c:=c) (by
  have e1:decide (i < -(2^63:Int))=false:=Zp (by lia);have e2:decide (i>=2^63)=false:=Zp (by lia);rw[e1,e2,Bool.or_false]) (by rw[h1];simpa using h2) ⟨.str ⟨#[c]⟩,H,I.tok _,⟨_,rfl⟩,q⟩) hs
def rIx(K:PySem.W.Frag):R2:=λx y H Q=>rIxL K x y H Q\/rIxT K x y H Q\/rIxS x y H Q
theorem xo4:IxR X (rIx X.K):=ix_list.or (ix_tup.or xo3)
theorem qQ5(its:List Value)(n j:Nat)(u:Value):Obj.mapSeq (·.setIfInBounds j u) { cls:=.type "list",data:=.seq its.toArray n }={ cls:=.type "list",data:=.seq (its.set j u).toArray n }:=by
 simp[Obj.mapSeq]
theorem Inv.lst{j1:List (Addr×Obj)}{σ:St}{H:Hp}{s:Shared}{p:Addr}{xs:List V}(I:Inv X j1 σ H s)(h:H p=some (.lst xs)) :
  ∃(its:List Value)(n:Nat),Vals xs its/\s.heap.get? p=some { cls:=.type "list",data:=.seq its.toArray n }/\xs.length<=sizeLine:=by
 obtain⟨z,its,n,r,e⟩:=I.hok p _ h;exact⟨its,n,r,e,z⟩
theorem Inv.lstUpd{j1:List (Addr×Obj)}{σ:St}{H:Hp}{s:Shared}{p:Addr}{xs ys:List V}{its its':List Value}{n n':Nat}{f:Obj->Obj}(I:Inv X j1 σ H s)(h:H p=some (.lst xs))
  (ho:s.heap.get? p=some { cls:=.type "list",data:=.seq its.toArray n }) (hf:f { cls:=.type "list",data:=.seq its.toArray n }={ cls:=.type "list",data:=.seq its'.toArray n' }) (r:Vals ys its') (hz:ys.length<=sizeLine) (t:Nat) :
  Inv X j1 σ (upd H p (.lst ys)) { s with heap:=s.heap.update p f,toks:=t }:=by
 have e:(s.heap.update p f).get? p=some { cls:=.type "list",data:=.seq its'.toArray n' }:=by
  rw[Xo f ho (by rw[hf]<;>rfl),hf]
 refine I.write (x:=p) (e:=p) (by rw[h];trivial) (.inl rfl) (λb u hb q=>(Heap.get?_update_other _ _ (Xc hb)).trans q) ⟨_,e⟩ ?_;exact⟨hz,its',n',r,e⟩
def xw0:V->V->V->Hp->(Hp->Prop)->Prop:=λo i v H Q=>∃p xs k j,o=.ref p/\i=.int k/\H p=some (.lst xs)/\ixN xs.length k=some j/\Q (upd H p (.lst (xs.set j v)))
theorem qL2:PSet X xw0:=by
 intro j1 s σ H o i v ov iv u Q I ro ri rv h;obtain⟨p,xs,k,j,rfl,rfl,hp,hj,q⟩:=h;cases ro;obtain⟨t,rfl⟩:=ri;obtain⟨its,n,r,ho,hz⟩:=I.lst hp;obtain⟨h1,h2,h3,h4⟩:=qV7 hj;have hl:=r.length;have hn:=qC8;have I':Inv X j1 σ (upd H p (.lst (xs.set j v))) { s with heap:=s.heap.update p (Obj.mapSeq (·.setIfInBounds j u)) }:=
  I.lstUpd hp ho (qQ5 its n j u) (r.set rv j) (by rw[List.length_set];exact hz) s.toks
 by_cases h0:0<=k
 ·have hk:k.toNat=j:=by
   rw[seqIndex_of h0 h4] at h1;exact ZC h1
  exact PySem.W.ki_setAt ho h0 (by lia) (by rw[ZA,<- hl];exact h4) (by rw[hk];exact⟨_,I',q⟩)
 ·have hk:(k+(its.toArray.size:Int)).toNat=j:=by
   rw[seqIndex_neg (by lia) h3] at h1;rw[ZA,<- hl];exact ZC h1
  exact PySem.W.ki_setBack ho (by lia) (by rw[ZA,<- hl];exact h3) (by lia) (by rw[hk];exact⟨_,I',q⟩)
def qD4:V->Bool
 |.non=>true
 |.bl _=>true
 |.int _=>true
 |.str _=>true
 |_=>false
def eqV:V->V->Bool
 |.non,.non=>true
 |.bl a,.bl b=>a==b
 |.bl a,.int b=>(if a then 1 else 0)==b
 |.int a,.bl b=>a==(if b then 1 else 0)
 |.int a,.int b=>a==b
 |.str a,.str b=>a==b
 |_,_=>false
theorem xo5{A:Around}{s:Shared}{y x:V}{u v:Value}(ry:RelV y u)(rx:RelV x v)(fy:qD4 y=true)(fx:qD4 x=true):SeqAt.EqAt A s u v (eqV y x):=by
 cases y with
 |non=>
  cases ry;cases x with
  |non=>cases rx;exact SeqAt.EqAt.same _
  |bl b=>cases rx;exact SeqAt.EqAt.none_bool b
  |int b=>obtain⟨t,rfl⟩:=rx;exact SeqAt.EqAt.none_int b t
  |str b=>obtain⟨t,rfl⟩:=rx;exact SeqAt.EqAt.none_str b t
  |_=>exact absurd (show false=true from fx) Zs
 |bl a=>
  cases ry;cases x with
  |non=>cases rx;exact SeqAt.EqAt.bool_none a
  |bl b=>cases rx;exact SeqAt.EqAt.bool_bool a b
  |int b=>obtain⟨t,rfl⟩:=rx;exact SeqAt.EqAt.bool_int a b t
  |str b=>obtain⟨t,rfl⟩:=rx;exact SeqAt.EqAt.bool_str a b t
  |_=>exact absurd (show false=true from fx) Zs
 |int a=>
  obtain⟨t',rfl⟩:=ry;cases x with
  |non=>cases rx;exact SeqAt.EqAt.int_none a t'
  |bl b=>cases rx;exact SeqAt.EqAt.int_bool a t' b
  |int b=>obtain⟨t,rfl⟩:=rx;exact SeqAt.EqAt.int_int a t' b t
  |str b=>obtain⟨t,rfl⟩:=rx;exact SeqAt.EqAt.int_str a t' b t
  |_=>exact absurd (show false=true from fx) Zs
 |str a=>
  obtain⟨t',rfl⟩:=ry;cases x with
  |non=>cases rx;exact SeqAt.EqAt.str_none a t'
  |bl b=>cases rx;exact SeqAt.EqAt.str_bool a t' b
  |int b=>obtain⟨t,rfl⟩:=rx;exact SeqAt.EqAt.str_int a t' b t
  |str b=>obtain⟨t,rfl⟩:=rx;exact SeqAt.EqAt.str_str a t' b t
  |_=>exact absurd (show false=true from fx) Zs
 |_=>exact absurd (show false=true from fy) Zs
def eqU(x:V)(u:Value):Bool:=match u with
 |.none=>eqV .non x
 |.bool b=>eqV (.bl b) x
 |.int i _=>eqV (.int i) x
 |.str z _=>eqV (.str z) x
 |_=>false
theorem xc8{x y:V}{u:Value}(r:RelV y u)(f:qD4 y=true):eqU x u=eqV y x:=by
 cases y with
 |non=>cases r;rfl
 |bl b=>cases r;rfl
 |int i=>obtain⟨t,rfl⟩:=r;rfl
 |str z=>obtain⟨t,rfl⟩:=r;rfl
 |_=>exact absurd (show false=true from f) Zs
theorem qI5{x:V}:∀{xs:List V}{us:List Value},Vals xs us->xs.all qD4=true->us.any (eqU x)=xs.any λy=>eqV y x
 |_,_,.nil,_=>rfl
 |y::xs,u::us,.cons r t,f=>by
  rw[List.all_cons,Wp] at f;rw[Yn,Yn,xc8 r f.1,qI5 t f.2]
theorem qz5{A:Around}{s:Shared}{x:V}{v:Value}(rx:RelV x v)(fx:qD4 x=true):∀{xs:List V}{us:List Value},Vals xs us->xs.all qD4=true->∀u∈us,SeqAt.EqAt A s u v (eqU x u)
 |_,_,.nil,_=>λu hu=>by cases hu
 |y::xs,u::us,.cons r t,f=>λu' hu=>by
  rw[List.all_cons,Wp] at f;rcases Zv.mp hu with rfl|hu
  ·rw[xc8 r f.1];exact xo5 r rx f.1 fx
  ·exact qz5 rx fx t f.2 u' hu
def inV(x:V)(xs:List V):Bool:=xs.any λy=>eqV y x
def rIn(K:PySem.W.Frag)(neg:Bool):R2:=λx y H Q=>∃p xs,y=.ref p/\(SqL K H p xs\/SqT K H p xs)/\qD4 x=true/\xs.all qD4=true/\Q (.bl (if neg then !inV x xs else inV x xs)) H
theorem qD5:OpR X (compareOp .NotIn) (rIn X.K true):=by
 intro j1 s σ H x y v u Q I rx ry h;obtain⟨p,xs,rfl,hq,fx,fs,q⟩:=h;cases ry;rcases hq with hq|hq
 ·obtain⟨its,r,pl,hz⟩:=I.list hq;refine SeqAt.notIn_listAt (eqU x) pl.isList (λw hw=>qz5 rx fx r fs w (by simpa using hw)) ⟨.bl _,H,I,rfl,?_⟩;rw[show its.toArray.any (eqU x)=its.any (eqU x) by simp,qI5 r fs];exact q
 ·obtain⟨its,r,pl,hz⟩:=I.tuple hq;refine SeqAt.notIn_tupleAt (eqU x) pl (λw hw=>qz5 rx fx r fs w (by simpa using hw)) ⟨.bl _,H,I,rfl,?_⟩;rw[show its.toArray.any (eqU x)=its.any (eqU x) by simp,qI5 r fs];exact q
theorem qd3:qg4 X (.builtin "len") (λxs H Q=>∃p ys,xs=[.ref p]/\(SqL X.K H p ys\/SqT X.K H p ys)/\Q (.int ys.length) H):=by
 intro j1 s σ H xs us Q I r h;obtain⟨p,ys,rfl,hq,q⟩:=h;obtain⟨u,rfl,rx⟩:=qi2 r;cases rx;have hn:=qC8;rcases hq with hq|hq
 ·obtain⟨its,r',pl,hz⟩:=I.list hq;have j2:=r'.length;exact Calls.call_len_list pl.isList (by simp only[ZA]<;>lia) ⟨.int ys.length,H,I.tok _,⟨s.toks+1,by rw[ZA,j2]⟩,q⟩
 ·obtain⟨its,r',pl,hz⟩:=I.tuple hq;have j2:=r'.length;exact len_tuple pl (by simp only[ZA]<;>lia) ⟨.int ys.length,H,I.tok _,⟨s.toks+1,by rw[ZA,j2]⟩,q⟩
theorem qz6:qg4 X (.type "tuple") (λxs H Q=>∃p ys,xs=[.ref p]/\((SqL X.K H p ys/\∀l,H l=none->Q (.ref l) (upd H l (.tup ys)))\/(SqT X.K H p ys/\Q (.ref p) H))):=by
 intro j1 s σ H xs us Q I r h;obtain⟨p,ys,rfl,h⟩:=h;obtain⟨u,rfl,rx⟩:=qi2 r;cases rx;rcases h with ⟨hq,q⟩|⟨hq,q⟩
 ·obtain⟨its,r',pl,hz⟩:=I.list hq;have j2:=r'.length;refine call_tuple_list pl.isList (λh' kp=>?_) (by simp only[ZA]<;>lia);have I1:Inv X j1 σ H { s with heap:=h' }:=I.kept (t':=s.toks) kp;have I2:Inv X j1 σ (upd H h'.objs.size (.tup ys)) { s with heap:=h'.push { cls:=.type "tuple",data:=.seq its.toArray } }:=
   I1.laid (t':=s.toks) (λb o e=>Zc _ e) (Zf _) (show ObjOk X.prog X.w _ _ _ (.tup ys) from ⟨hz,its,r',IsTupX.new _ _⟩)
  exact⟨.ref h'.objs.size,_,I2,rfl,q _ (I1.hok.fresh (Zf _))⟩
 ·obtain⟨its,r',pl,hz⟩:=I.tuple hq;exact call_tuple_same pl ⟨.ref p,H,I,rfl,q⟩
def tyV(K:PySem.W.Frag)(T:String)(x:V)(H:Hp):Prop:=match x with
 |.str _=>T = "str"
 |.int _=>T = "int"
 |.ref p=>(T = "list" /\ ∃xs,SqL K H p xs)\/(T = "tuple" /\ ∃o,K.lookup p=some o/\o.cls=.type "tuple" /\ o.dict=none) \/
   (T = "dict" /\ ((∃kvs,H p=some (.dK kvs))\/∃kvs,H p=some (.dT kvs)))\/(T = "set" /\ ∃S n,H p=some (.set S n))
 |_=>False
theorem xo6{j1:List (Addr×Obj)}{σ:St}{H:Hp}{s:Shared}{T:String}{x:V}{v:Value}(I:Inv X j1 σ H s)(r:RelV x v)(ty:tyV X.K T x H) :
  s.TypeIs v T/\∀a,v=.ref a->∃ob,s.heap.get? a=some ob/\ob.dict=none:=by
 cases x with
 |str z=>
  obtain⟨t,rfl⟩:=r;cases (show T = "str" from ty);exact⟨typeIs_str s z t,λ_ e=>nomatch e⟩
 |int i=>
  obtain⟨t,rfl⟩:=r;cases (show T = "int" from ty);exact⟨Wq s i t,λ_ e=>nomatch e⟩
 |ref p=>
  cases r;rcases ty with ⟨rfl,xs,hq⟩|⟨rfl,o,hk,hc,hd⟩|⟨rfl,hk⟩|⟨rfl,S,n,hk⟩
  ·obtain⟨its,_,pl,_⟩:=I.list hq;refine⟨pl.isList.typeIs,λa e=>?_⟩;cases e;obtain⟨o,n,e,c,hd,_⟩:=pl;exact⟨o,e,hd⟩
  ·refine⟨⟨o,I.kIn p o hk,hc⟩,λa e=>?_⟩;cases e;exact⟨o,I.kIn _ o hk,hd⟩
  ·have z:∃o,s.heap.get? p=some o/\o.ExactDict:=by
    rcases hk with ⟨kvs,hk⟩|⟨kvs,hk⟩
    ·obtain⟨_,_,_,_,o,_,_,e,ex,_⟩:=I.hok p _ hk;exact⟨o,e,ex⟩
    ·obtain⟨_,_,_,_,o,_,_,e,ex,_⟩:=I.hok p _ hk;exact⟨o,e,ex⟩
   obtain⟨o,e,ex⟩:=z;refine⟨⟨o,e,ex.1⟩,λa e2=>?_⟩;cases e2;exact⟨o,e,ex.2.1⟩
  ·obtain⟨o,_,_,_,e,ex,_⟩:=I.hok p _ hk;refine⟨⟨o,e,ex.1⟩,λa e2=>?_⟩;cases e2;exact⟨o,e,ex.2.1⟩
 |_=>exact False.elim ty
def tBM(K:PySem.W.Frag)(T:String)(r:V->List V->Hp->VK->Prop)(to:TE)(t:TA):TE:=λσ H Q=>to σ H λx H1=>tyV K T x H1/\t σ H1 λxs H2=>r x xs H2 Q
variable{o e:Expr}{es:List Expr}{to:TE}{t:TA}{name:Str}{apos cpos:Pos}{T id:String}{r:V->List V->Hp->VK->Prop}
theorem xg4(pa:PlainAttrs T)(slot:Slot T name id)(hty:typeOf (.builtin id)=pure (.type "method_descriptor"))(hm:MtR X id r)(ho:PE X o to)(ha:PA X (e::es) t)
  (hbase:attributeBase o name X.env (eval o X.env)=eval o X.env:=by rfl)
  (hfew:((backTo cpos (starEach (e::es) X.env)).all (λx=>!x.1)&&(backToKw cpos (keywordEach [] X.env)).all (λx=>x.1.isSome)
   && decide ((e::es).length+([]:List Keyword).length+(if ([]:List Keyword).isEmpty then 0 else 1)<30))=true:=by rfl)
  (hline:(apos.endLine==cpos.line)=true:=by rfl) (hs:starEach (e::es) X.env=(false,eval e X.env)::starEach es X.env:=by rfl) (hplain:(backTo cpos (starEach es X.env)).any (·.1)=false:=by rfl) :
  PE X (.Call (.Attribute o name apos) (e::es) [] cpos) (tBM X.K T r to t):=by
 intro j1 s σ H Q I h;refine wpAny_Call_method_late hbase hfew hline rfl (thn (ho j1 s σ H _ I h) λv s1 ⟨x,H1,I1,r1,ty,q1⟩=>?_);obtain⟨h1,h2⟩:=xo6 I1 r1 ty;refine⟨T,id,pa,slot,hty,h1,h2,?_⟩;have hA:=ha cpos j1 s1 σ H1 _ I1 q1;rw[hs] at hA ⊢;refine Calls.callWith_builtin (by show (false||(backTo cpos (starEach es X.env)).any (·.1))=false;rw[hplain]<;>rfl) (Calls.evalArgs_plain ?_);exact thn hA λus s2 ⟨vs,H2,I2,r2,q2⟩=>hm j1 s2 σ H2 x vs v us Q I2 r1 r2 q2
end
def MtM(X:Cx)(id:String)(r:V->List V->Hp->VK->Prop):Prop:=
 ∀(j1:List (Addr×Obj))(s:Shared)(σ:St)(H:Hp)(x:V)(xs:List V)(v:Value)(us:List Value)(Q:VK),Inv X j1 σ H s->RelV x v->Vals xs us->r x xs H Q ->
  wpAny (model X.prog X.w) X.A (call (.builtin id) (v::us)) (EP X j1 σ Q) X.xe s
theorem Vals.one{x:V}{us:List Value}(h:Vals [x] us):∃u,us=[u]/\RelV x u:=by
 cases h with
 |cons r t=>cases t;exact⟨_,rfl,r⟩
section
variable{X:Cx}{j1:List (Addr×Obj)}{σ:St}{H:Hp}{s:Shared}{l b:Addr}{xs ys zs:List V}
theorem Inv.lset{its its':List Value}{n:Nat}{f:Array Value->Array Value}{t':Nat}(I:Inv X j1 σ H s)(hH:H l=some (.lst xs))
  (e:s.heap.get? l=some { cls:=.type "list",data:=.seq its.toArray n }) (hf:f its.toArray=its'.toArray) (hv:Vals ys its') (hz:ys.length<=sizeLine) :
  Inv X j1 σ (upd H l (.lst ys)) { s with heap:=s.heap.update l (Obj.mapSeq f),toks:=t' }:=by
 have q:=PySem.IsL.update e f;rw[hf] at q;refine I.write (x:=l) (e:=l) (by rw[hH];exact trivial) (.inl rfl) (λb' u hb hu=>(Heap.get?_update_other s.heap (Obj.mapSeq f) (Xc hb)).trans hu) ⟨_,q⟩ ?_;exact⟨hz,its',_,hv,q⟩
theorem Inv.fresh(I:Inv X j1 σ H s):H s.heap.objs.size=none:=I.hok.fresh (Zf _)
theorem Inv.lstM(I:Inv X j1 σ H s)(hH:H l=some (.lst xs)):xs.length<=sizeLine/\∃(its:List Value)(n:Nat),Vals xs its/\xs.length=its.length/\s.heap.get? l=some { cls:=.type "list",data:=.seq its.toArray n }:=by
 obtain⟨z,its,n,r,e⟩:=I.hok l _ hH;exact⟨z,its,n,r,r.length,e⟩
end
section
variable{X:Cx}
def xg5:V->List V->Hp->VK->Prop:=λx vs H Q=>∃l xs y,x=.ref l/\vs=[y]/\H l=some (.lst xs)/\xs.length<sizeLine/\Q .non (upd H l (.lst (xs++[y])))
theorem qm2:MtM X "list.append" xg5:=by
 intro j1 s σ H x vs v us Q I rx rv h;obtain⟨l,xs,y,rfl,rfl,hH,hz,q⟩:=h;cases rx;obtain⟨u,rfl,ru⟩:=rv.one;obtain⟨z,its,n,r,hl,e⟩:=I.lstM hH;refine Wr F.slot_list_append ⟨_,e,rfl⟩ F.entry_list_append (F.args_list_append_2 _ _) (PySem.list_append l its.toArray n u (by rw[ZA];lia)) ⟨e,?_⟩;refine⟨.non,_,I.lset (its':=its++[u]) hH e (by simp) (r.append (.cons ru .nil)) ?_,rfl,q⟩;rw[Zi,List.length_singleton];lia
end
section
variable{prog:Program}{w:World}{A:Around}{E:Value->Shared->Prop}{s:Shared}
end
section
variable{X:Cx}
end
end L2
namespace Att
open PySem PySem.W PySem.Calls PyProof.Rows
theorem qt8{P:Params}{h:Heap}:∀(ns:List Int)(vs:List Value),WellAll P h vs (ns.map WData.int)->IntsAre vs ns:=by
 intro ns
 induction ns with
 |nil=>
  intro vs w;rw[Xj] at w;cases w;exact .nil
 |cons n ns ih=>
  intro vs w;rw[Zz] at w;cases w with
  |cons a b=>
   cases a;exact .cons _ _ (ih _ b)
theorem qV9{l:OpenLaw}{n:Nat}(hn:l.most=some n){P:Params}{h:Heap}{args:List WData}{vals:List Value}
  (hpre:l.row.toRowW.claim.pre args=true) (hwl:WellAll P h vals args) :
  ∃a vs ns,vals=[Value.ref a]/\args=[WData.list (ns.map WData.int)]/\h.get? a=some { cls:=.type "list",data:=.seq vs.toArray }/\IntsAre vs ns/\ns.length<=n:=by
 have hsh:WShape.hasAll [] args [.list .int]=true:=(pre_splitW hpre).1;have hc:l.pre.holds [] { args:=args }=true:=(pre_splitW hpre).2;obtain⟨d,r,rfl,h1,h2⟩:=hasAllW_cons hsh;obtain rfl:=hasAllW_nil h2;obtain⟨xs,rfl,h3⟩:=hasW_list h1;obtain⟨ns,rfl⟩:=items_int h3;have j2:ns.length<=n:=by
  unfold OpenLaw.pre at hc;have h4:(WTm.not (.lt (.lit (.int (n:Int))) (.len (.arg 0)))).holds [] { args:=[.list (ns.map .int)] }=true:=by
   have h4:=(holds_andW hc).1;rw[hn] at h4;exact h4
  have h5:=condW_of h4 (w_not (w_lt w_lit (w_len_list (w_arg rfl))));rw[Ze] at h5;refine W7 λq=>?_;have q':(n:Int)<((ns.length:Nat):Int):=by lia
  first
   |(rw[Zq q'] at h5;exact absurd h5 (by decide))
   |(simp at h5;lia)
 cases hwl with
 |cons w1 w2=>
  cases w2;cases w1 with
  |list ho jI=>exact⟨_,_,ns,rfl,rfl,ho,qt8 ns _ jI,j2⟩
theorem qW0(l:OpenLaw)(args:List WData):l.row.toRowW.claim.post args (.bool true) args=true:=
 postW_of (r:=l.row.toRowW) (X:=(true==true))
  (show WShape.has [] (.bool true) .bool=true by first|rfl|decide|simp[WShape.has,WShape.arms,WShape.armsAll])
  (show (WTm.eq .res (.lit (.bool true))).value [] { args:=args,res:=some (.bool true),after:=args }=some (.bool (true==true)) from w_eq_bool (w_res rfl) w_lit) rfl
theorem attach_call{l:OpenLaw}{n:Nat}{q:Program}{loose:List Str}{XP:(Str->Option Value)->Heap->Prop}{YP:World->Heap->Prop}{d:DefRec}
  (hn:l.most=some n) (hdf:d.params.defaults=[])
  (call:∀(w:World)(s₀ s₁:Shared)(mg mb:Str->Option Value)(fa:Addr)(o:Obj)(pm cd doc:Value)(a:Addr)(vs:List Value)(ns:List Int),
   Ground q loose [] XP w s₀ mg mb s₁.heap->YP w s₁.heap ->
   s₁.heap.get? fa=some o->o.data=.func (docDef d.name d.params d.body d.scope pm cd doc)->s₁.heap.CodeRec cd d.name->mg d.name=some (.ref fa) ->
   s₁.heap.get? a=some { cls:=.type "list",data:=.seq vs.toArray }->IntsAre vs ns->ns.length<=n->s₁.gens=#[] ->
   codeAny (model l.prog w) callerA (.call (.ref fa) ⟨[.ref a],[]⟩) (λr s'=>r=.ok (.ret (.bool true))/\OldK s₁.heap s'.heap/\s'.os=s₁.os/\AllBare s'.gens) s₁) :
  WalkO q loose XP YP l.row.toRowW d [] (λf vs=>PySem.call f vs):=by
 intro w s₀ s₁ mg mb G Y fa o pm cd doc dV kV ho hd k5 hD hmg hg args vals as hpre hlay hrd hwl hlo;obtain rfl:dV=.none:=Dflts.none hD hdf;obtain rfl:kV=.none:=Dflts.noKw hD;obtain⟨a,vs,ns,rfl,rfl,hobj,hints,j2⟩:=qV9 hn hpre hwl;refine enter_call (We (call w s₀ s₁ mg mb fa o pm cd doc a vs ns G Y ho (fd_plain hd) k5 hmg hobj hints j2 hg) λr s' hq=>?_);obtain⟨rfl,h2,h3,h4⟩:=hq;exact⟨.inl ⟨.bool true,.bool true,[],rfl,λ_=>rfl,.bool true,qW0 l _,λ_=>⟨List.Pairwise.nil,λ_ hm=>(nomatch hm)⟩⟩,h2,h3,h4⟩
section
variable{prog:Program}{w:World}{A:Around}{E:Value->Shared->Prop}{s:Shared}{K:Frag}
end
end Att
namespace L2
open PySem PySem.Spec PyProof.Rows
theorem qD6:∀{vs:List Value}{ns:List Int},IntsAre vs ns->Vals (ns.map V.int) vs
 |_,_,.nil=>.nil
 |_,_,.cons n t h=>.cons ⟨t,rfl⟩ (qD6 h)
def Only(H:Hp):Prop:=∀b,H b=none\/∃o xs,H b=some (.frz o (.lst xs))
theorem q71{P:Program}{w:World}{K:PySem.W.Frag}{mg mb:Str->Option Value}{CX:CXT}{k:Nat}{fa a:Addr}{fd:FuncData}{x:Str}{sp:Sp}{s₁:Shared}{vs:List Value}{ns:List Int}
  (KX:K.In s₁.heap) (hns:s₁.heap.Ns mainGlobals mg) (hb:s₁.heap.Ns builtinsNs mb) (hbb:∀x:Str,x ≠ "__name__" -> mb x=bootBuiltins x) (hlim:s₁.heap.NoLimit) (hg:s₁.gens=#[])
  (ha:s₁.heap.get? a=some { cls:=.type "list",data:=.seq vs.toArray }) (hi:IntsAre vs ns) (hl:ns.length<=sizeLine) (hr:Room k callerA)
  (F:∀base:Heap,K.In base->base.Ns mainGlobals mg->FnOk P w K mg base CX k fa fd [x] sp) (hbind:∀(s:Shared)(u:Value),BindsTo s fd ⟨[u],[]⟩ [(x,u)])
  (kI:∀H:Hp,Only H->SqL K H a (ns.map V.int)->sp [.ref a] H (λv _=>v=.bl true) λ_ _ _=>False)
  (hCX:∀H e s',CX [] H s₁ (λ_ _ _=>False) e s'->False) :
  codeAny (model P w) callerA (.call (.ref fa) ⟨[.ref a],[]⟩) (λr s'=>r=.ok (.ret (.bool true))/\OldK s₁.heap s'.heap/\s'.os=s₁.os/\AllBare s'.gens) s₁:=by
 have rv:=qD6 hi;have lenV:=hi.length;have core:∀H:Hp,Only H->SqL K H a (ns.map V.int)->HOk P w H s₁.heap->(∀b,H b≠none->b=a)->(H a≠none->K.lookup a=none) ->
   codeAny (model P w) callerA (.call (.ref fa) ⟨[.ref a],[]⟩) (λr s'=>r=.ok (.ret (.bool true))/\OldK s₁.heap s'.heap/\s'.os=s₁.os/\AllBare s'.gens) s₁:=by
  intro H hO hS hok hA hK;have base_of:∀{b:Addr}{o:Obj},s₁.heap.get? b=some o->H b=none->(hidT s₁.heap H).get? b=some o:=λe n=>q62 e n;have noA:∀{b:Addr}{o:Obj}{es:Array DictEntry}{ep:Nat},s₁.heap.get? b=some o->o.data=.dict es ep->H b=none:=λ{b o es ep} e d=>by
   cases q:H b with
   |none=>rfl
   |some u=>
    have e':b=a:=hA b (by rw[q];simp);subst e';rw[ha] at e;cases e;have d':Data.seq vs.toArray _=Data.dict es ep:=d;cases d'
  have nsK:∀{b:Addr}{m:Str->Option Value},s₁.heap.Ns b m->(hidT s₁.heap H).Ns b m:=λ{b m} ⟨o,es,ep,e,d,r⟩=>⟨o,es,ep,base_of e (noA e d),d,r⟩;have hKb:K.In (hidT s₁.heap H):=λb o e=>base_of (KX b o e) (by
   cases q:H b with
   |none=>rfl
   |some u=>
    have e':b=a:=hA b (by rw[q];simp);subst e';rw[hK (by rw[q];simp)] at e;cases e)
  have hM:Mod K mg (hidT s₁.heap H):=⟨hKb,nsK hns,⟨mb,nsK hb,hbb⟩,let ⟨mc,h1,h2⟩:=hlim;⟨mc,nsK h1,h2⟩⟩;have e0:Env0 P w K mg (hidT s₁.heap H) callerA [] s₁ H:=⟨rfl,hM,λb o e=>xf4 e,WF (qT4 _ _),trivial,λb hb=>absurd (show b∈([]:List Addr) from hb) (by simp),hok,.of_eq hg⟩;refine We ((F _ hKb (nsK hns)).run callerA [] s₁ H ⟨[.ref a],[]⟩ [.ref a] [.ref a] _ _ hr e0 (hbind s₁ (.ref a)) (.cons rfl .nil) (kI H hO hS)) λr s' h=>?_;cases r with
  |error e=>exact (hCX H e s' h).elim
  |ok fl=>
   cases fl with
   |next=>exact False.elim h
   |brk=>exact False.elim h
   |cont=>exact False.elim h
   |ret u=>
    obtain⟨v,H',os,bare,un,hok',r',q⟩:=h;have q':v=.bl true:=q;subst q';obtain rfl:u=Value.bool true:=r';refine⟨rfl,OldK.of_keep λb o e=>?_,os,bare⟩;cases q:H b with
    |none=>exact un.keep b o e q (by intro z;exact absurd (show b∈([]:List Addr) from z) (by simp)) (by simp)
    |some u=>
     rcases hO b with z|⟨ob,xs,z⟩
     ·rw[q] at z;cases z
     ·have z2:=un.frzs b ob _ z;obtain⟨e1,_⟩:=hok b _ z;obtain⟨e2,_⟩:=hok' b _ z2;rw[e] at e1;cases e1;exact e2
 cases hk:K.lookup a with
 |some o=>
  have e:=KX a o hk;rw[ha] at e;cases e;refine core (λ_=>none) (λ_=>.inl rfl) (.inr ⟨_,vs.toArray,_,hk,rfl,rfl,rfl,by rw[ZA,lenV];exact hl,by simpa using rv⟩) (λb u z=>by have z':(none:Option HO)=some u:=z;cases z') (λb z=>absurd rfl z) λz=>absurd rfl z
 |none=>
  refine core (λb=>if b=a then some (.frz { cls:=.type "list",data:=.seq vs.toArray } (.lst (ns.map V.int))) else none) (λb=>?_) (.inl (.inr ⟨{ cls:=.type "list",data:=.seq vs.toArray },Zm rfl⟩)) (λb u z=>?_) (λb z=>?_) λ_=>hk
  ·by_cases hb:b=a
   ·exact .inr ⟨_,_,Zm hb⟩
   ·exact .inl (Zh hb)
  ·by_cases hb:b=a
   ·have z':=(Zm hb).symm.trans z;cases z';subst hb;exact⟨ha,by rw[Ze];exact hl,vs,_,rv,ha⟩
   ·have z':=(Zh hb).symm.trans z;cases z'
  ·by_cases hb:b=a
   ·exact hb
   ·exact absurd (Zh hb) z
theorem xg6{l:PySem.W.OpenLaw}{n k:Nat}{q:Program}{loose:List Str}{XP:(Str->Option Value)->Heap->Prop}{YP:World->Heap->Prop}{d:DefRec}{K:Params->PySem.W.Frag}{CX:World->CXT}{sp:World->Sp}{x:Str}
  (hn:l.most=some n) (hn2:n<=sizeLine) (hdf:d.params.defaults=[]) (hr:Room k callerA)
  (hY:∀(w:World)(h:Heap),YP w h->(K w.params).In h)
  (F:∀(w:World)(mg:Str->Option Value)(fa:Addr)(h:Heap),(K w.params).In h->h.Ns mainGlobals mg->mg d.name=some (.ref fa) ->
   ∃fd:FuncData,(∀(s:Shared)(u:Value),BindsTo s fd ⟨[u],[]⟩ [(x,u)]) /\
    ∀base:Heap,(K w.params).In base->base.Ns mainGlobals mg->FnOk l.prog w (K w.params) mg base (CX w) k fa fd [x] (sp w))
  (kI:∀(w:World)(H:Hp)(a:Addr)(ns:List Int),ns.length<=n->Only H->SqL (K w.params) H a (ns.map V.int)->sp w [.ref a] H (λv _=>v=.bl true) λ_ _ _=>False)
  (hCX:∀(w:World)(H:Hp)(s:Shared)(e:Value)(s':Shared),CX w [] H s (λ_ _ _=>False) e s'->False) :
  PySem.W.WalkO q loose XP YP l.row.toRowW d [] (λf vs=>PySem.call f vs):=by
 refine Att.attach_call hn hdf λw s₀ s₁ mg mb fa o pm cd doc a vs ns G Y ho hd k5 hmg hobj hints j2 hg=>?_;have KX:=hY w _ Y;obtain⟨fd,hb,hF⟩:=F w mg fa _ KX G.T.g hmg;exact q71 KX G.T.g G.T.b G.T.builtins G.T.nolimit hg hobj hints (ZH j2 hn2) hr hF hb (λH hO hS=>kI w H a ns j2 hO hS) λH e s'=>hCX w H s₁ e s'
abbrev CX0:CXT:=λ_ _ _ _ _ _=>False
abbrev E0:XK:=λ_ _ _=>False
theorem qm3{X:Cx}:qx6 CX0 X E0:=λ_ _ _ _ _ _ _ h=>h.elim
structure Fun(K:PySem.W.Frag)(x qual:Str)(st:Stmt)(f:Addr)(fd:FuncData):Prop where
 ex:∃(oc:Value)(od:Option Addr)(kV doc pm:Value)(an:Option Addr)(cdv ct:Value)(osl:Array (Option Value)),
  fd=PySem.W.fnOf x qual (qf7 st) (qf0 st) (qa5 st) .none kV doc pm an cdv ct/\K.lookup f=some ⟨oc,od,.func fd,osl⟩/\PySem.W.codeIn K cdv qual=true
 kp:PySem.W.keepIn K (.ref f)=true
section
variable{P:Program}{w:World}{K:PySem.W.Frag}{mg:Str->Option Value}{base:Heap}
theorem Fun.ok{x qual:Str}{st:Stmt}{f:Addr}{fd:FuncData}{N ps:List Str}{k:Nat}{sp:Sp}(F:Fun K x qual st f fd)(S:FnScope N ps (qa5 st))(len:∀vs H Q E,sp vs H Q E->vs.length=ps.length)
  (hbody:∀(cdv:Value)(A:Around)(outer:List Env)(s:Shared)(H:Hp)(vs:List V)(Q:VK)(E:XK),Room k (A.deeper (envOfC qual (qa5 st) s.heap.objs.size f cdv))->sp vs H Q E ->
   ∃t,PSs (cxOf CX0 P w K mg base N qual (qa5 st) f cdv A outer s H E).nox (qf0 st) t/\t { nx:=λ_ H'=>Q .non H',rt:=Q } (start N vs) H):FnOk P w K mg base CX0 (k+1) f fd ps sp:=by
 obtain⟨oc,od,kV,doc,pm,an,cdv,ct,osl,rfl,lk,k5⟩:=F.ex;refine xv6 lk k5 S len λA outer s H vs Q E hr kI=>?_;obtain⟨t,h,q⟩:=hbody cdv A outer s H vs Q E hr kI;exact⟨t,h.nox,q⟩
theorem Fun.binds{x qual:Str}{st:Stmt}{f:Addr}{fd:FuncData}{ps:List Str}(F:Fun K x qual st f fd)
  (h:∀(kV doc pm:Value)(an:Option Addr)(cdv ct:Value)(us:List Value),us.length=ps.length->bindArgs (PySem.W.fnOf x qual (qf7 st) (qf0 st) (qa5 st) .none kV doc pm an cdv ct) ⟨us,[]⟩=pure (ps.zip us)):Binds K fd ps []:=by
 obtain⟨oc,od,kV,doc,pm,an,cdv,ct,osl,rfl,lk,k5⟩:=F.ex;exact .all (h kV doc pm an cdv ct)
theorem qW1{x qual:Str}{st:Stmt}{f:Addr}{oc:Value}{od an:Option Addr}{osl:Array (Option Value)}{kV doc pm cdv ct:Value}(l:K.lookup f=some ⟨oc,od,.func (PySem.W.fnOf x qual (qf7 st) (qf0 st) (qa5 st) .none kV doc pm an cdv ct),osl⟩)
  (c:PySem.W.codeIn K cdv qual=true) (k:PySem.W.keepIn K (.ref f)=true):Fun K x qual st f (PySem.W.fnOf x qual (qf7 st) (qf0 st) (qa5 st) .none kV doc pm an cdv ct):=⟨⟨oc,od,kV,doc,pm,an,cdv,ct,osl,rfl,l,c⟩,k⟩
end
theorem qi6{n:Nat}(h:n<=1000):n<sizeLine:=ZS h (by decide)
section
variable{X:Cx}
theorem pv(i:Nat){x:Str}{pos:Pos}(hN:X.N[i]?=some x:=by rfl)(hv:Vis X.env.scope x:=by first|exact Or.inl rfl|exact Or.inr (Or.inl rfl)|exact Or.inr (Or.inr rfl))(hd:(x==("__debug__" : Str))=false:=by decide)
  (k5:(x==("__classdict__" : Str))=false:=by decide):PE X (.Name x pos) (tVar i):=xn3 hN hv hd k5
end
theorem iteF{A B:Prop}(h:B):if false=true then A else B:=by
 rw[Zh Zs];exact h
theorem iteT{A B:Prop}(h:A):if true=true then A else B:=by
 rw[Zm rfl];exact h
theorem ite2{c A B:Prop}[Decidable c](h1:c->A)(h2:¬c->B):if c then A else B:=by
 by_cases h:c
 ·rw[Zm h];exact h1 h
 ·rw[Zh h];exact h2 h
theorem xw1{c A B:Prop}[Decidable c](hc:c)(h:B):if (!decide c)=true then A else B:=by
 rw[Zq hc];exact iteF h
def Same(H H':Hp):Prop:=∀b o,H b=some o->H' b=some o
theorem Same.refl(H:Hp):Same H H:=λ_ _ h=>h
theorem Same.trans{H H1 H2:Hp}(a:Same H H1)(b:Same H1 H2):Same H H2:=λc o h=>b c o (a c o h)
theorem Same.seq{K:PySem.W.Frag}{H H':Hp}{a:Addr}{xs:List V}(e:Same H H')(h:SqL K H a xs):SqL K H' a xs:=by
 rcases h with (h|⟨o,h⟩)|h
 ·exact .inl (.inl (e _ _ h))
 ·exact .inl (.inr ⟨o,e _ _ h⟩)
 ·exact .inr h
section
variable{X:Cx}
theorem qp1{env:Env}:∀{names:List (Str×NameKind)}{acc:List (Str×Addr)},
  (∀p∈names,p.2=.free->∃c,cellOf env p.1=pure c/\env.cells.lookup p.1=some c) ->
  (∀y c,acc.lookup y=some c->env.cells.lookup y=some c) ->
  ∃cl:List (Str×Addr),(forIn names acc λp cs=>(if p.2==.free then (do let c <- cellOf env p.1;pure (ForInStep.yield ((p.1,c)::cs))) else pure (ForInStep.yield cs):Sem (ForInStep (List (Str×Addr)))))=pure cl /\
   (∀y c,cl.lookup y=some c->env.cells.lookup y=some c)/\(∀y,(acc.lookup y).isSome=true->(cl.lookup y).isSome=true)/\∀p∈names,p.2=.free->(cl.lookup p.1).isSome=true
 |[],acc,_,ha=>⟨acc,by simp,ha,λ_ h=>h,λ_ h=>absurd h (by simp)⟩
 |(n,k)::r,acc,hn,ha=>by
  by_cases hk:k=.free
  ·subst hk;obtain⟨c,e1,e2⟩:=hn (n,.free) Zu rfl;obtain⟨cl,h1,h2,h3,h4⟩:=qp1 (env:=env) (names:=r) (acc:=(n,c)::acc) (λp hp=>hn p (Zn _ hp)) (λy d h=>by
    rw[Yc] at h;cases hy:y==n with
    |true=>rw[hy] at h;cases h;rw[eq_of_beq hy];exact e2
    |false=>rw[hy] at h;exact ha y d h)
   refine⟨cl,?_,h2,λy hy=>h3 y (by
    rw[Yc];cases y==n with
    |true=>rfl
    |false=>exact hy),λp hp hf=>?_⟩
   ·rw[Ve];have e1':cellOf env n=pure c:=e1;simp only[W8,Yt,e1',pure_bind];exact h1
   ·rcases Zv.mp hp with rfl|hp
    ·exact h3 _ (by simp[Yc])
    ·exact h4 p hp hf
  ·obtain⟨cl,h1,h2,h3,h4⟩:=qp1 (env:=env) (names:=r) (acc:=acc) (λp hp=>hn p (Zn _ hp)) ha;refine⟨cl,?_,h2,h3,λp hp hf=>?_⟩
   ·rw[Ve];have:(k==NameKind.free)=false:=by simpa using hk
    simp only[this,Zt,ZP,pure_bind];exact h1
   ·rcases Zv.mp hp with rfl|hp
    ·exact absurd hf hk
    ·exact h4 p hp hf
def xg7(wi:TI)(te:TE):TE:=λσ H Q=>wi σ H λJ H1=>∀D,H1 D=none->∃W:Nat->Nat->List V->Hp->Prop,(∃m,W 0 m [] (upd H1 D (.lst []))) /\
 ∀i m xs H2,W i m xs H2->H2 D=some (.lst xs)/\xs.length<sizeLine/\((J.stop i H2/\Q (.ref D) H2)\/(J.go i H2/\∀y H3,J.yld i H2 y H3 ->
  te (some y::σ) H3 λv H4=>H4 D=some (.lst xs)/\∃m',m'<m/\W (i+1) m' (xs++[v]) (upd H4 D (.lst (xs++[v])))))
theorem qt9{scope:Scope}{env:Env}(hf:∀p∈scope.names,p.2=.free->∃c,env.cells.lookup p.1=some c) :
  ∃cl:List (Str×Addr),closureFor scope env=pure cl/\(∀y c,cl.lookup y=some c->env.cells.lookup y=some c)/\∀p∈scope.names,p.2=.free->(cl.lookup p.1).isSome=true:=by
 obtain⟨cl,h1,h2,_,h4⟩:=qp1 (env:=env) (names:=scope.names) (acc:=[]) (λp hp hk=>by
  obtain⟨c,e⟩:=hf p hp hk;refine⟨c,?_,e⟩;unfold cellOf;rw[e]) (λy c h=>by simp at h)
 refine⟨cl,?_,h2,h4⟩;unfold closureFor;refine Eq.trans ?_ h1;simp only[bind_pure]
theorem qg0{env:Env}:∀{names:List (Str×NameKind)}{y:Str}{k:NameKind},(names.map λ(n,k)=>if (k==NameKind.free&&env.scope.kind==.function&&env.kindOf n==some .cell) then (n,NameKind.cell) else (n,k)).lookup y=some k ->
  (∀p∈names,p.2≠.cell)->(k=.cell\/k=.free)->∃p∈names,p.1=y/\p.2=.free
 |[],_,_,h,_,_=>by simp at h
 |(n,k0)::r,y,k,h,hc,hk=>by
  rw[Zz] at h;by_cases hy:y=n
  ·subst hy;by_cases h0:k0=.free
   ·exact⟨(y,k0),Zu,rfl,h0⟩
   ·exfalso;have e:(k0==NameKind.free)=false:=by simpa using h0
    simp only[e,Wd,Zt,ZP,Yc,W8,Option.some.injEq] at h;rcases hk with z|z
    ·exact hc _ Zu (h.trans z)
    ·exact h0 (h.trans z)
  ·have hb:(y==n)=false:=by simpa using hy
   have h':(r.map λ(n,k)=>if (k==NameKind.free&&env.scope.kind==.function&&env.kindOf n==some .cell) then (n,NameKind.cell) else (n,k)).lookup y=some k:=by
    revert h;dsimp only;split<;>(intro h;simpa only [Yc,hb] using h)
   obtain⟨p,hp,e⟩:=qg0 h' (λp hp=>hc p (Zn _ hp)) hk;exact⟨p,Zn _ hp,e⟩
theorem qm4{env:Env}:∀{names:List (Str×NameKind)}{y:Str},(names.map λ(n,k)=>if (k==NameKind.free&&env.scope.kind==.function&&env.kindOf n==some .cell) then (n,NameKind.cell) else (n,k)).lookup y=some .local ->
  names.lookup y=some .local
 |[],_,h=>by simp at h
 |(n,k0)::r,y,h=>by
  rw[Zz] at h;by_cases hy:y=n
  ·subst hy;rw[Yc,W8];revert h;dsimp only;split
   ·intro h;simp[Yc] at h
   ·intro h;simpa [Yc] using h
  ·have hb:(y==n)=false:=by simpa using hy
   rw[Yc,hb];refine qm4 (env:=env) ?_;revert h;dsimp only;split<;>(intro h;simpa only [Yc,hb] using h)
end
section
variable{κ:Type}[DecidableEq κ]
def valV(kvs:List (κ×V))(k:κ):Option V:=(kvs.find? λkv=>decide (kv.1=k)).map (·.2)
def putK(kvs:List (κ×V))(k:κ)(v:V):List (κ×V):=
 if (kvs.any λkv=>decide (kv.1=k))=true then kvs.map (λkv=>if kv.1=k then (kv.1,v) else kv) else kvs++[(k,v)]
theorem qd8{p:κ×V}{r:List (κ×V)}{k:κ}(e:p.1=k):valV (p::r) k=some p.2:=by simp[valV,YH,e]
theorem qd9{p:κ×V}{r:List (κ×V)}{k:κ}(e:¬p.1=k):valV (p::r) k=valV r k:=by simp[valV,YH,e]
theorem qe2(k:κ):∀kvs:List (κ×V),(kvs.any λkv=>decide (kv.1=k))=(valV kvs k).isSome
 |[]=>rfl
 |p::r=>by
  rw[Yn];by_cases e:p.1=k
  ·simp only[qd8 e,Zq e,Bool.true_or,Option.isSome_some]
  ·rw[qd9 e,Zp e,Bool.false_or];exact qe2 k r
theorem qL3(k j:κ)(y:V):∀kvs:List (κ×V),valV (kvs.map λkv=>if kv.1=k then (kv.1,y) else kv) j=(valV kvs j).map λx=>if j=k then y else x
 |[]=>rfl
 |p::r=>by
  have ih:=qL3 k j y r;rw[Zz];by_cases h:p.1=k
  ·rw[Zm h];by_cases e:p.1=j
   ·rw[qd8 (p:=(p.1,y)) e,qd8 e,Wx,Zm (e.symm.trans h)]
   ·rw[qd9 (p:=(p.1,y)) e,qd9 e,ih]
  ·rw[Zh h];by_cases e:p.1=j
   ·rw[qd8 (p:=p) e,qd8 e,Wx,Zh (λz=>h (e.trans z))]
   ·rw[qd9 (p:=p) e,qd9 e,ih]
theorem qD7(k j:κ)(y:V):∀kvs:List (κ×V),valV kvs k=none->valV (kvs++[(k,y)]) j=if j=k then some y else valV kvs j
 |[],_=>by
  by_cases e:k=j
  ·rw[Zm e.symm];exact qd8 (p:=(k,y)) e
  ·rw[Zh (λz=>e z.symm)];exact qd9 (p:=(k,y)) e
 |p::r,hn=>by
  rw[List.cons_append];have hk:¬p.1=k:=λz=>by rw[qd8 z] at hn;cases hn
  rw[qd9 hk] at hn;have ih:=qD7 k j y r hn;by_cases e:p.1=j
  ·rw[qd8 e,qd8 e,Zh (λz=>hk (e.trans z))]
  ·rw[qd9 e,qd9 e,ih]
theorem qL4(kvs:List (κ×V))(k j:κ)(y:V):valV (putK kvs k y) j=if j=k then some y else valV kvs j:=by
 unfold putK;by_cases a:(kvs.any λkv=>decide (kv.1=k))=true
 ·rw[Zm a,qL3];rw[qe2] at a;by_cases e:j=k
  ·obtain⟨x,hx⟩:=Y5.mp a;rw[Zm e,e,hx,Wx,Zm rfl]
  ·rw[Zh e];cases valV kvs j with
   |none=>rfl
   |some x=>rw[Wx,Zh e]
 ·rw[Zh a];refine qD7 k j y kvs ?_;rw[qe2] at a;cases q:valV kvs k with
  |none=>rfl
  |some x=>rw[q] at a;exact (a rfl).elim
theorem ql2(kvs:List (κ×V))(k:κ)(v:V):(putK kvs k v).length<=kvs.length+1:=by
 unfold putK;split
 ·rw[Ze];lia
 ·rw[Zi,ZK,Vf];lia
theorem RelO.isSome_eq{o:Option V}{u:Option Value}(r:RelO o u):o.isSome=u.isSome:=by
 cases o with
 |none=>cases u with
  |none=>rfl
  |some _=>exact (show False from r).elim
 |some _=>cases u with
  |none=>exact (show False from r).elim
  |some _=>rfl
theorem KV.val{kvs:List (κ×V)}{vs:List (κ×Value)}(r:KV kvs vs)(k:κ):RelO (valV kvs k) (valueAt vs k):=by
 unfold KV at r
 induction r with
 |nil=>exact True.intro
 |@cons p q ps qs h t ih=>
  obtain⟨h1,h2⟩:=h;by_cases e:p.1=k
  ·have e':q.1=k:=h1.symm.trans e;have b:valueAt (q::qs) k=some q.2:=by simp[valueAt,YH,e']
   rw[qd8 e,b];exact h2
  ·have e':¬q.1=k:=λz=>e (h1.trans z);have b:valueAt (q::qs) k=valueAt qs k:=by simp[valueAt,YH,e']
   rw[qd9 e,b];exact ih
theorem KV.any{kvs:List (κ×V)}{vs:List (κ×Value)}(r:KV kvs vs)(k:κ):(kvs.any λkv=>decide (kv.1=k))=vs.any λkv=>decide (kv.1=k):=by
 unfold KV at r
 induction r with
 |nil=>rfl
 |cons h t ih=>rw[Yn,Yn,ih,h.1]
theorem KV.repl{kvs:List (κ×V)}{vs:List (κ×Value)}(r:KV kvs vs)(k:κ){y:V}{u:Value}(ry:RelV y u) :
  KV (kvs.map λkv=>if kv.1=k then (kv.1,y) else kv) (vs.map λkv=>if kv.1=k then (kv.1,u) else kv):=by
 unfold KV at r ⊢
 induction r with
 |nil=>exact .nil
 |@cons p q ps qs h t ih=>
  rw[Zz,Zz];refine .cons ?_ ih;obtain⟨h1,h2⟩:=h;by_cases e:p.1=k
  ·rw[Zm e,Zm (h1.symm.trans e)];exact⟨h1,ry⟩
  ·rw[Zh e,Zh (λz=>e (h1.trans z))];exact⟨h1,h2⟩
theorem KV.put{kvs:List (κ×V)}{vs:List (κ×Value)}(r:KV kvs vs)(k:κ){y:V}{u:Value}(ry:RelV y u):KV (putK kvs k y) (stored vs k u):=by
 unfold putK stored;rw[r.any k];by_cases e:(vs.any λkv=>decide (kv.1=k))=true
 ·rw[Zm e,Zm e];exact r.repl k ry
 ·rw[Zh e,Zh e];exact Paired.snoc r ⟨rfl,ry⟩
theorem KV.keys{kvs:List (κ×V)}{vs:List (κ×Value)}(r:KV kvs vs):kvs.map (·.1)=vs.map (·.1):=by
 unfold KV at r
 induction r with
 |nil=>rfl
 |cons h t ih=>rw[Zz,Zz,ih,h.1]
theorem KV.length{kvs:List (κ×V)}{vs:List (κ×Value)}(r:KV kvs vs):kvs.length=vs.length:=YN r
end
theorem qI6{P:Program}{w:World}{k:Key}{u:Value}(r:RelV (kV k) u):(qd5 P w).is k u=true:=by
 cases k with
 |inl i=>obtain⟨t,e⟩:=(show ∃t,u=Value.int i t from r);subst e;exact qH9 P w i t
 |inr x=>obtain⟨t,e⟩:=(show ∃t,u=Value.str x t from r);subst e;exact qI0 P w x t
theorem qu0{P:Program}{w:World}:∀{ks:List Key}{us:List Value},Vals (ks.map kV) us->ItemsAre (qd5 P w) ks us
 |[],_,r=>by rw[Xj] at r;cases r;exact .nil
 |k::ks,_,r=>by
  rw[Zz] at r;cases r with
  |cons h t=>exact .cons (qI6 h) (qu0 t)
abbrev KT(H:Hp):List (List Key×V)->List (List Key×Addr×Value)->Prop:=Paired λp q=>p.1=q.1/\H q.2.1=some (.tup (p.1.map kV))/\RelV p.2 q.2.2
theorem KT.val{H:Hp}{kvs:List (List Key×V)}{xs:List (List Key×Addr×Value)}(r:KT H kvs xs)(k:List Key):RelO (valV kvs k) ((atKey xs k).map (·.2)):=by
 induction r with
 |nil=>exact True.intro
 |@cons p q ps qs h t ih=>
  obtain⟨h1,_,h2⟩:=h;by_cases e:p.1=k
  ·have e':q.1=k:=h1.symm.trans e;have b:atKey (q::qs) k=some q.2:=by simp[atKey,YH,e']
   rw[qd8 e,b];exact h2
  ·have e':¬q.1=k:=λz=>e (h1.trans z);have b:atKey (q::qs) k=atKey qs k:=by simp[atKey,YH,e']
   rw[qd9 e,b];exact ih
theorem KT.repl{H:Hp}{kvs:List (List Key×V)}{xs:List (List Key×Addr×Value)}(r:KT H kvs xs)(k:List Key){y:V}{u:Value}(ry:RelV y u) :
  KT H (kvs.map λkv=>if kv.1=k then (kv.1,y) else kv) (xs.map (putAt k u)):=by
 induction r with
 |nil=>exact .nil
 |@cons p q ps qs h t ih=>
  rw[Zz,Zz];refine .cons ?_ ih;obtain⟨h1,h2,h3⟩:=h;unfold putAt;by_cases e:p.1=k
  ·rw[Zm e,Zm (h1.symm.trans e)];exact⟨h1,h2,ry⟩
  ·rw[Zh e,Zh (λz=>e (h1.trans z))];exact⟨h1,h2,h3⟩
theorem KT.put{H:Hp}{kvs:List (List Key×V)}{xs:List (List Key×Addr×Value)}(r:KT H kvs xs)(k:List Key){b:Addr}{y:V}{u:Value}(hb:H b=some (.tup (k.map kV)))(ry:RelV y u) :
  KT H (putK kvs k y) (storedH xs k b u):=by
 have e:(kvs.any λkv=>decide (kv.1=k))=(atKey xs k).isSome:=by
  rw[qe2,(r.val k).isSome_eq,Xu]
 unfold putK storedH;rw[e];by_cases q:(atKey xs k).isSome=true
 ·rw[Zm q,Zm q];exact r.repl k ry
 ·rw[Zh q,Zh q];exact Paired.snoc r ⟨rfl,hb,ry⟩
theorem KT.keeps{H H':Hp}{kvs:List (List Key×V)}{xs:List (List Key×Addr×Value)}(r:KT H kvs xs)(ht:∀b ys,H b=some (.tup ys)->H' b=some (.tup ys)):KT H' kvs xs:=
 Paired.mapP r λ_ _ z=>⟨z.1,ht _ _ z.2.1,z.2.2⟩
section
variable{P:Program}{w:World}{H:Hp}{h:Heap}{a:Addr}
theorem xg8{u:HO}(ok:HOk P w H h)(e:Rd H a u):ObjOk P w H h a u:=e.ok ok
theorem qW2{kvs:List (Key×V)}(ok:HOk P w H h)(e:Rd H a (.dK kvs)):kvs.length<=sizeLine/\(a==sysModules)=false/\∃vs,KV kvs vs/\h.DictOf (qd5 P w) a vs:=
 show ObjOk P w H h a (.dK kvs) from xg8 ok e
theorem xo7{kvs:List (Key×V)}(ok:HOk P w H h)(e:H a=some (.dK kvs)):kvs.length<=sizeLine/\(a==sysModules)=false/\∃vs,KV kvs vs/\h.DictOf (qd5 P w) a vs:=qW2 ok (.inl e)
theorem qD8{ks:List Key}(ok:HOk P w H h)(e:H a=some (.tup (ks.map kV))):(tupleKind (qd5 P w)).is h ks a:=by
 obtain⟨_,its,r,o,h1,h2,n,h3⟩:=(show ObjOk P w H h a (.tup (ks.map kV)) from ok a _ e);exact⟨o,its.toArray,n,h1,h2,h3,by simpa using qu0 r⟩
theorem qW3{kvs:List (List Key×V)}(ok:HOk P w H h)(e:Rd H a (.dT kvs)):kvs.length<=sizeLine/\(a==sysModules)=false /\
  ∃xs,KT H kvs xs/\h.DictOfH (tupleKind (qd5 P w)) a xs:=by
 obtain⟨z,y,xs,r,o,es,ep,h1,h2,h3,h4,h5⟩:=(show ObjOk P w H h a (.dT kvs) from xg8 ok e);refine⟨z,y,xs,r,o,es,ep,h1,h2,h3,h4,λx hx=>?_,h5⟩;have all:∀{l:List (List Key×V)}{m:List (List Key×Addr×Value)},KT H l m->∀x∈m,(tupleKind (qd5 P w)).is h x.1 x.2.1:=by
  intro l m q
  induction q with
  |nil=>intro x hx;exact nomatch hx
  |@cons p q ps qs hq t ih=>
   intro x hx;rcases Zv.mp hx with e|hx
   ·subst e;exact qD8 ok (by rw[<- hq.1];exact hq.2.1)
   ·exact ih x hx
 exact all r x hx
theorem xw2{kvs:List (List Key×V)}(ok:HOk P w H h)(e:H a=some (.dT kvs)):kvs.length<=sizeLine/\(a==sysModules)=false /\
  ∃xs,KT H kvs xs/\h.DictOfH (tupleKind (qd5 P w)) a xs:=qW3 ok (.inl e)
end
def DGet(H:Hp)(a:Addr)(y:V)(r:Option V):Prop:=
 (∃kvs k,Rd H a (.dK kvs)/\y=kV k/\r=valV kvs k)\/∃kvs k b,Rd H a (.dT kvs)/\y=.ref b/\H b=some (.tup (k.map kV))/\r=valV kvs k
def DPut(H:Hp)(a:Addr)(y v:V)(H':Hp):Prop:=
 (∃kvs k,H a=some (.dK kvs)/\y=kV k/\kvs.length<sizeLine/\H'=upd H a (.dK (putK kvs k v))) \/
 ∃kvs k b,H a=some (.dT kvs)/\y=.ref b/\H b=some (.tup (k.map kV))/\kvs.length<sizeLine/\H'=upd H a (.dT (putK kvs k v))
theorem DGet.k{H:Hp}{a:Addr}{kvs:List (Key×V)}{k:Key}(e:H a=some (.dK kvs)):DGet H a (kV k) (valV kvs k):=.inl ⟨kvs,k,.inl e,rfl,rfl⟩
theorem DGet.t{H:Hp}{a b:Addr}{kvs:List (List Key×V)}{k:List Key}(e:H a=some (.dT kvs))(eb:H b=some (.tup (k.map kV))):DGet H a (.ref b) (valV kvs k):=.inr ⟨kvs,k,b,.inl e,rfl,eb,rfl⟩
theorem DPut.k{H:Hp}{a:Addr}{kvs:List (Key×V)}{k:Key}{v:V}(e:H a=some (.dK kvs))(hl:kvs.length<sizeLine):DPut H a (kV k) v (upd H a (.dK (putK kvs k v))):=.inl ⟨kvs,k,e,rfl,hl,rfl⟩
theorem DPut.t{H:Hp}{a b:Addr}{kvs:List (List Key×V)}{k:List Key}{v:V}(e:H a=some (.dT kvs))(eb:H b=some (.tup (k.map kV)))(hl:kvs.length<sizeLine) :
  DPut H a (.ref b) v (upd H a (.dT (putK kvs k v))):=.inr ⟨kvs,k,b,e,rfl,eb,hl,rfl⟩
section
variable{X:Cx}{j1:List (Addr×Obj)}{σ:St}{H:Hp}{s:Shared}{a:Addr}{y v:V}{u r:Value}{o:Option V}{A:Around}{E:Value->Shared->Prop}
theorem Inv.big(I:Inv X j1 σ H s):sysModules<s.heap.objs.size:=by
 have h:mainGlobals<s.heap.objs.size:=(I.mod.glob.keeps I.bk).lt;exact W9 (by decide) h
theorem qW4{Q:Value->Shared->Prop}(hu:A.units+1<cLine)(I:Inv X j1 σ H s)(g:DGet H a y (some v))(ry:RelV y u)(h:∀w' s',Inv X j1 σ H s'->RelV v w'->Q w' s') :
  wpAny (model X.prog X.w) A (getItem (.ref a) u) Q E s:=by
 rcases g with ⟨kvs,k,e,ey,l⟩|⟨kvs,k,b,e,ey,eb,l⟩
 ·subst ey;obtain⟨z,hd,vs,rel,dd⟩:=qW2 I.hok e;obtain⟨w',hw,rw'⟩:=RelO.some_of (v:=v) (o:=valueAt vs k) (by rw[l];exact rel.val k);exact wpAny_getItem_of (qI6 ry) dd.mapOf hw (h w' _ (I.tok _) rw')
 ·subst ey;cases (show u=Value.ref b from ry);obtain⟨z,hd,xs,rel,dd⟩:=qW3 I.hok e;obtain⟨w',hw,rw'⟩:=RelO.some_of (v:=v) (o:=(atKey xs k).map (·.2)) (by rw[l];exact rel.val k);obtain⟨p,hp,jQ⟩:=Zl.mp hw;refine wpAny_getItem_heap (X3 hu) (qD8 I.hok eb) dd hp ?_;rw[jQ];exact h w' _ (I.tok _) rw'
theorem d_in{Q:Value->Shared->Prop}(hu:A.units+1<cLine)(I:Inv X j1 σ H s)(g:DGet H a y o)(ry:RelV y u)(h:∀s',Inv X j1 σ H s'->Q (.bool o.isSome) s') :
  wpAny (model X.prog X.w) A (compareOp .In u (.ref a)) Q E s:=by
 rcases g with ⟨kvs,k,e,ey,l⟩|⟨kvs,k,b,e,ey,eb,l⟩
 ·subst ey;obtain⟨z,hd,vs,rel,dd⟩:=qW2 I.hok e;refine wpAny_in_of (qI6 ry) hd dd.mapOf ?_;rw[<- (rel.val k).isSome_eq,<- l];exact h _ (I.tok _)
 ·subst ey;cases (show u=Value.ref b from ry);obtain⟨z,hd,xs,rel,dd⟩:=qW3 I.hok e;refine wpAny_in_heap (X3 hu) (qD8 I.hok eb) hd dd ?_;have q:=(rel.val k).isSome_eq;rw[Xu] at q;rw[<- q,<- l];exact h _ (I.tok _)
theorem xg9{Q:Value->Shared->Prop}(hu:A.units+1<cLine)(I:Inv X j1 σ H s)(g:DGet H a y o)(ry:RelV y u)(h:∀s',Inv X j1 σ H s'->Q (.bool (!o.isSome)) s') :
  wpAny (model X.prog X.w) A (compareOp .NotIn u (.ref a)) Q E s:=by
 rcases g with ⟨kvs,k,e,ey,l⟩|⟨kvs,k,b,e,ey,eb,l⟩
 ·subst ey;obtain⟨z,hd,vs,rel,dd⟩:=qW2 I.hok e;refine wpAny_notIn_of (qI6 ry) hd dd.mapOf ?_;rw[<- (rel.val k).isSome_eq,<- l];exact h _ (I.tok _)
 ·subst ey;cases (show u=Value.ref b from ry);obtain⟨z,hd,xs,rel,dd⟩:=qW3 I.hok e;refine wpAny_notIn_heap (X3 hu) (qD8 I.hok eb) hd dd ?_;have q:=(rel.val k).isSome_eq;rw[Xu] at q;rw[<- q,<- l];exact h _ (I.tok _)
theorem qI7{h':Heap}{t':Nat}{ob:HO}(I:Inv X j1 σ H s)(mu:Mut (H a))(hs:Heap.SameBut a s.heap h')(he:∃q,h'.get? a=some q)(new:ObjOk X.prog X.w (upd H a ob) h' a ob) :
  Inv X j1 σ (upd H a ob) { s with heap:=h',toks:=t' }:=
 I.write (x:=a) (e:=a) mu (.inl rfl) (λb q hb z=>(hs.2 b hb).trans z) he new
theorem xo8{P:Program}{w:World}{H':Hp}{h':Heap}{kvs:List (Key×V)}{vs:List (Key×Value)}(z:kvs.length<=sizeLine)(hd:(a==sysModules)=false)(rel:KV kvs vs)(dd:h'.DictOf (qd5 P w) a vs) :
  ObjOk P w H' h' a (.dK kvs):=⟨z,hd,vs,rel,dd⟩
theorem qW5{H':Hp}{Q:Unit->Shared->Prop}(hu:A.units+1<cLine)(I:Inv X j1 σ H s)(g:DPut H a y v H')(ry:RelV y u)(rv:RelV v r)(h:∀s',Inv X j1 σ H' s'->Q () s') :
  wpAny (model X.prog X.w) A (setItem (.ref a) u r) Q E s:=by
 rcases g with ⟨kvs,k,e,ey,l,eH⟩|⟨kvs,k,b,e,ey,eb,l,eH⟩
 ·subst ey eH;obtain⟨z,hd,vs,rel,dd⟩:=xo7 I.hok e;have hz:vs.length<=sizeLine:=by rw[<- rel.length];exact z
  have hl:(putK kvs k v).length<=sizeLine:=by have:=ql2 kvs k v;lia
  refine wpAny_setItem_pairs (hsz:=hz) (qI6 ry) dd λh' dd' hs=>h _ ?_;have he:∃q,h'.get? a=some q:=let ⟨q,_,_,hq,_⟩:=dd';⟨q,hq⟩;exact qI7 I (by rw[e];exact True.intro) hs he (xo8 hl hd (rel.put k rv) dd')
 ·subst ey eH;cases (show u=Value.ref b from ry);obtain⟨z,hd,xs,rel,dd⟩:=xw2 I.hok e;have hz:xs.length<=sizeLine:=by rw[<- YN rel];exact z
  have hl:(putK kvs k v).length<=sizeLine:=by have:=ql2 kvs k v;lia
  refine wpAny_setItem_heap (hsz:=hz) (X3 hu) (qD8 I.hok eb) dd λh' dd' hs=>h _ ?_;obtain⟨q,es,ep,hq,h2,h3,h4,_,h5⟩:=dd';refine qI7 I (by rw[e];exact True.intro) hs ⟨q,hq⟩ ⟨hl,hd,_,(rel.put k eb rv).keeps λc ys ec=>?_,q,es,ep,hq,h2,h3,h4,h5⟩;rw[qa7 (xn2 ec e (λz=>nomatch z))];exact ec
end
section
variable{X:Cx}{j1:List (Addr×Obj)}{σ:St}{H:Hp}{s:Shared}{a:Addr}{kvs:List (Key×V)}{k:Key}{u:Value}{A:Around}{E:Value->Shared->Prop}
end
def NoSl(i:Expr):Prop:=∀ov iv,subscripted i false ov iv=operate [ov,iv] (getItem ov iv)
theorem xh0{prog:Program}{w:World}{A:Around}{E:Value->Shared->Prop}{s:Shared}{env:Env}{value slice:Expr}{pos:Pos}{T id:String}{Q:Value->Shared->Prop}
  (hl:typeLookup (.type T) "__getitem__" = pure (some (.builtin id))) (hs:NoSl slice)
  (h:wpAny (model prog w) A (eval value env) (λo s₁=>wpAny (model prog w) A (eval slice env) (λi s₂=>s₂.TypeIs o T/\wpAny (model prog w) A (getItem o i) Q E s₂) E s₁) E s) :
  wpAny (model prog w) A (eval (.Subscript value slice pos) env) Q E s:=by
 refine Subscript_ (Yu h (λo s₁ h₁=>Yu h₁ (λi s₂ h₂=>?_) λ_ _ x=>x) λ_ _ x=>x);obtain⟨hT,h₂⟩:=h₂;unfold subscriptTail;refine Za ?_;rw[getitemInPython_of_ne hT.not_modules];refine Za (YX hT hl ?_);have fin:wpAny (model prog w) A (subscripted slice false o i) (λr s₃=>wpAny (model prog w) A (letTemporaryGo value o r >>= λ_=>pure r) Q E s₃) E s₂:=by
  rw[hs o i];exact wpAny_operating (Yu h₂ (λr s₃ h₃=>Za (wpAny_letTemporaryGo (Zb h₃))) λ_ _ x=>x)
 first
  |exact Zb (Za fin)
  |exact Za (Zb (Za fin))
  |exact Za fin
theorem qI8{X:Cx}{j1:List (Addr×Obj)}{σ:St}{H:Hp}{s:Shared}{a:Addr}{y:V}{o:Option V}(I:Inv X j1 σ H s)(g:DGet H a y o):s.TypeIs (.ref a) "dict":=by
 rcases g with ⟨kvs,k,e,_,_⟩|⟨kvs,k,b,e,_,_,_⟩
 ·obtain⟨_,_,vs,_,dd⟩:=qW2 I.hok e;exact dd.typeIs
 ·obtain⟨_,_,xs,_,dd⟩:=qW3 I.hok e;exact dd.typeIs
def xw3(td ty:TE):TE:=λσ H Q=>td σ H λx H1=>ty σ H1 λy H2=>∃a v,x=.ref a/\DGet H2 a y (some v)/\Q v H2
def tDIn(ty td:TE):TE:=λσ H Q=>ty σ H λy H1=>td σ H1 λx H2=>∃a o,x=.ref a/\DGet H2 a y o/\Q (.bl o.isSome) H2
def xh1(ty td:TE):TE:=λσ H Q=>ty σ H λy H1=>td σ H1 λx H2=>∃a o,x=.ref a/\DGet H2 a y o/\Q (.bl (!o.isSome)) H2
def xw4(td ty tv:TE):TS:=λD σ H=>tv σ H λv H1=>td σ H1 λx H2=>ty σ H2 λy H3=>∃a H4,x=.ref a/\DPut H3 a y v H4/\D.nx σ H4
section
variable{X:Cx}{o i e value:Expr}{pos pos' tpos:Pos}{td ty tv:TE}
theorem xh2(hu:X.A.units+1<cLine)(ho:PE X o td)(hi:PE X i ty)(hs:NoSl i):PE X (.Subscript o i pos) (xw3 td ty):=by
 intro j1 s σ H Q I h;refine xh0 WT.lookup hs (thn (ho j1 s σ H _ I h) λu s1 ⟨x,H1,I1,rx,q1⟩=>thn (hi j1 s1 σ H1 _ I1 q1) λiv s2 ⟨y,H2,I2,ry,a,v,ex,g,q2⟩=>?_);subst ex;obtain rfl:u=Value.ref a:=rx;exact⟨qI8 I2 g,qW4 hu I2 g ry λw' s3 I3 rw'=>⟨v,H2,I3,rw',q2⟩⟩
theorem qD9(hu:X.A.units+1<cLine)(hi:PE X i ty)(ho:PE X o td):PC X .In i o (tDIn ty td):=by
 intro j1 s σ H Q I h;refine thn (hi j1 s σ H _ I h) λiv s1 ⟨y,H1,I1,ry,q1⟩=>thn (ho j1 s1 σ H1 _ I1 q1) λu s2 ⟨x,H2,I2,rx,a,ov,ex,g,q2⟩=>?_;subst ex;obtain rfl:u=Value.ref a:=rx;exact d_in hu I2 g ry λs3 I3=>⟨.bl ov.isSome,H2,I3,rfl,q2⟩
theorem qW6(hu:X.A.units+1<cLine)(hi:PE X i ty)(ho:PE X o td):PC X .NotIn i o (xh1 ty td):=by
 intro j1 s σ H Q I h;refine thn (hi j1 s σ H _ I h) λiv s1 ⟨y,H1,I1,ry,q1⟩=>thn (ho j1 s1 σ H1 _ I1 q1) λu s2 ⟨x,H2,I2,rx,a,ov,ex,g,q2⟩=>?_;subst ex;obtain rfl:u=Value.ref a:=rx;exact xg9 hu I2 g ry λs3 I3=>⟨.bl (!ov.isSome),H2,I3,rfl,q2⟩
theorem qp2(hu:X.A.units+1<cLine)(ho:PE X o td)(hi:PE X i ty)(hv:PE X value tv)(hs:swapsWith value (some (.Subscript o i pos')) pos.line X.env=pure false) :
  PS X (.Assign [.Subscript o i pos'] value pos) (xw4 td ty tv):=by
 intro j1 s σ H D I h;refine wpAny_Assign_Subscript (thn (hv j1 s σ H _ I h) λr s1 ⟨v,H1,I1,rv,q1⟩=>thn (ho j1 s1 σ H1 _ I1 q1) λu s2 ⟨x,H2,I2,rx,q2⟩=>thn (hi j1 s2 σ H2 _ I2 q2) λiv s3 ⟨y,H3,I3,ry,a,H4,ex,g,q3⟩=>?_) hs;subst ex;obtain rfl:u=Value.ref a:=rx;exact qW5 hu I3 g ry rv λs4 I4=>⟨σ,H4,I4,q3⟩
end
theorem q72{P:Program}{w:World}{H:Hp}(h:Heap)(hb:sysModules<h.objs.size):ObjOk P w H (h.push { cls:=.type "dict",data:=.dict #[] }) h.objs.size (.dT []):=
 ⟨Zx _,Yp.mpr (Xc (ZB hb)),[],.nil,_,#[],0,Zj _ rfl,⟨rfl,rfl,rfl⟩,rfl,rfl,YT⟩
def xo9:TE:=λ_ H Q=>∀p,H p=none->Q (.ref p) (upd H p (.dT []))
section
variable{X:Cx}{pos:Pos}
theorem qr9:PE X (.Dict [] [] pos) xo9:=λj1 s σ H Q I h=>
 wpAny_Dict_empty ⟨.ref s.heap.objs.size,_,I.laid (a:=s.heap.objs.size) (o:=.dT []) (t':=s.toks) (λ_ _ q=>Zc _ q) (Zf _) (q72 s.heap I.big),rfl,h _ (I.hok.fresh (Zf _))⟩
end
section
variable{X:Cx}{j1:List (Addr×Obj)}{σ:St}{H:Hp}{s:Shared}{a:Addr}{y d:V}{u r:Value}{o:Option V}{A:Around}{E:Value->Shared->Prop}
end
section
variable{X:Cx}{o e f:Expr}{apos cpos:Pos}{td ty tx:TE}
end
section
variable{X:Cx}{j1:List (Addr×Obj)}{σ:St}{H:Hp}{s:Shared}{a:Addr}{kvs:List (Key×V)}{A:Around}{E:Value->Shared->Prop}
end
section
variable{X:Cx}{j1:List (Addr×Obj)}{σ:St}{H:Hp}{s:Shared}{a:Addr}{y:V}{u:Value}{A:Around}{E:Value->Shared->Prop}
end
section
variable{X:Cx}
end
section
variable{κ:Type}[DecidableEq κ]
end
end L2
namespace SetT
open PySem
def g:Nat->Nat
 |0=>0
 |n+1=>5*g n+1
def F:Nat->Nat->Nat
 |0,x=>x
 |n+1,x=>5*F n x+1
theorem F_eq(n x:Nat):F n x=x+g n*(4*x+1):=by
 induction n with
 |zero=>simp[F,g]
 |succ n ih=>
  show 5*F n x+1=x+(5*g n+1)*(4*x+1);rw[ih,Nat.add_mul,Vi,Yx];lia
theorem xh3(m n x:Nat):F (m+n) x=F m (F n x):=by
 induction m with
 |zero=>simp[F]
 |succ m ih=>
  rw[Nat.succ_add];show 5*F (m+n) x+1=5*F m (F n x)+1;rw[ih]
theorem g_F(n:Nat):g n=F n 0:=by
 rw[F_eq];simp
theorem xw5(m n:Nat):g (m+n)=g n+g m*(4*g n+1):=by
 rw[g_F,xh3,F_eq m,<- g_F n]
theorem xp0:∀k:Nat,∃c,g (2^k)=2^k*(2*c+1)
 |0=>⟨0,rfl⟩
 |k+1=>by
  obtain⟨c,hc⟩:=xp0 k;have e:g (2^(k+1))=g (2^k)*(4*g (2^k)+2):=by
   rw[Yy,Nat.mul_two,xw5];generalize g (2^k)=y;rw[WW,WW];lia
  rw[e,hc];refine⟨2^k*(2*c+1)*(2*c+1)+c,?_⟩;rw[Yy];generalize 2^k=p;have h1:p*(2*c+1)*(4*(p*(2*c+1))+2)=p*2*((2*c+1)*(2*(p*(2*c+1))+1)):=by
   have:4*(p*(2*c+1))+2=2*(2*(p*(2*c+1))+1):=by lia
   rw[this,Yx,Yx,WX (2*c+1) 2]
  rw[h1];congr 1;rw[WW,Nat.mul_one,WX,Yd (2*c+1) (p*(2*c+1))];lia
theorem qz7(k a q:Nat):(2^k*a+q)%2^(k+1)=(2^k*(a%2)+q)%2^(k+1):=by
 have ha:a=2*(a/2)+a%2:=by lia
 have:2^k*a+q=(2^k*(a%2)+q)+2^(k+1)*(a/2):=by
  have h:2^k*a+q=2^k*(2*(a/2)+a%2)+q:=by rw[<- ha]
  rw[h,Yy,WW,Yx];lia
 rw[this,XG]
theorem xp1:∀(k x y:Nat),∃r,r<2^k/\F r x%2^k=y%2^k
 |0,x,y=>⟨0,by decide,by simp[Nat.mod_one]⟩
 |k+1,x,y=>by
  obtain⟨r,hr,e⟩:=xp1 k x y;obtain⟨c,hc⟩:=xp0 k;have e2:F (2^k+r) x=F r x+2^k*(2*c+1)*(4*F r x+1):=by
   rw[xh3,F_eq (2^k),hc]
  have y1:2^k*(y/2^k)+y%2^k=y:=Yj y _;have z1:2^k*(F r x/2^k)+F r x%2^k=F r x:=Yj _ _;by_cases h:F r x/2^k%2=y/2^k%2
  ·refine⟨r,by lia,?_⟩;rw[<- z1,<- y1,qz7,h,<- qz7,e]
  ·refine⟨2^k+r,by lia,?_⟩;rw[e2];generalize F r x=z at *;have o:(2*c+1)*(4*z+1)=2*(c*(4*z+1)+2*z)+1:=by
    rw[Nat.add_mul,Vi,Yx];lia
   have e3:z+2^k*(2*c+1)*(4*z+1)=2^k*(z/2^k+(2*(c*(4*z+1)+2*z)+1))+z%2^k:=by
    rw[Yx,o,WW (2^k) (z/2^k)];lia
   rw[e3,<- y1,qz7,e];have e4:(z/2^k+(2*(c*(4*z+1)+2*z)+1))%2=y/2^k%2:=by lia
   rw[e4,<- qz7]
def qe8(mask:Nat):Nat->Nat->Nat->Nat
 |0,i,_=>i
 |r+1,i,p=>qe8 mask r (SetTable.leap mask i p).1 (SetTable.leap mask i p).2
theorem qu1(k:Nat):∀(r i:Nat),qe8 (2^k-1) r (i%2^k) 0=F r i%2^k
 |0,i=>rfl
 |r+1,i=>by
  have hp:0<2^k:=XU k;show qe8 (2^k-1) r ((i%2^k*5+1+0/32)%(2^k-1+1)) (0/32)=_;have e1:2^k-1+1=2^k:=by lia
  have e2:(i%2^k*5+1+0/32)%2^k=(5*i+1)%2^k:=by
   simp only[Nat.zero_div,Yk];rw[Nat.add_mod,Nat.mul_mod,Nat.mod_mod,<- Nat.mul_mod,<- Nat.add_mod,Yd]
  rw[e1,e2,Nat.zero_div,qu1 k r (5*i+1)];have:F r (5*i+1)=F (r+1) i:=by rw[xh3 r 1 i];rfl
  rw[this]
theorem qx8(mask:Nat):∀(a b i p:Nat),qe8 mask (a+b) i p=qe8 mask b (qe8 mask a i p) (p/32^a)
 |0,b,i,p=>by simp[qe8]
 |a+1,b,i,p=>by
  rw[Nat.succ_add];show qe8 mask (a+b) _ _=qe8 mask b (qe8 mask a _ _) _;rw[qx8 mask a b];show qe8 mask b _ (p/32/32^a)=_;rw[Wh,Yy,Yd (32^a) 32]
theorem qE0(mask:Nat):∀(a i p:Nat),i<mask+1->qe8 mask a i p<mask+1
 |0,i,p,h=>h
 |a+1,i,p,_=>qE0 mask a _ _ (Y6 _ (Nat.succ_pos _))
theorem qu2(k i p j:Nat)(hi:i<2^k)(hp:p<2^64)(hj:j<2^k):∃r,r<13+2^k/\qe8 (2^k-1) r i p=j:=by
 have hl:=qE0 (2^k-1) 13 i p (by lia);obtain⟨r,hr,e⟩:=xp1 k (qe8 (2^k-1) 13 i p) j;refine⟨13+r,by lia,?_⟩;rw[qx8];have hz:p/32^13=0:=YQ (W9 hp (by decide));have hm:qe8 (2^k-1) 13 i p=qe8 (2^k-1) 13 i p%2^k:=(Xf (by lia)).symm;rw[hz,hm,qu1,e,Xf hj]
theorem qW7(mask i:Nat):SetTable.runEnd mask i-i<=9:=by unfold SetTable.runEnd;split<;>lia
def adv(t:SetTable):Nat->SetTable.Probe->SetTable.Probe
 |0,p=>p
 |n+1,p=>adv t n (t.advance p)
theorem qW8(t:SetTable):∀(m:Nat)(p:SetTable.Probe),m<=p.more->adv t m p={ p with j:=p.j+m,more:=p.more-m }
 |0,p,_=>by simp[adv]
 |m+1,p,h=>by
  have e:t.advance p={ p with j:=p.j+1,more:=p.more-1 }:=by
   unfold SetTable.advance;rw[Zm (by lia)]
  show adv t m (t.advance p)=_;rw[e,qW8 t m _ (by show m<=p.more-1;lia)];congr 1
  ·show p.j+1+m=p.j+(m+1);lia
  ·show p.more-1-m=p.more-(m+1);lia
theorem qu3(t:SetTable):∀(a b:Nat)(p:SetTable.Probe),adv t (a+b) p=adv t b (adv t a p)
 |0,b,p=>by simp[adv]
 |a+1,b,p=>by rw[Nat.succ_add];exact qu3 t a b _
structure Head(t:SetTable)(i perturb:Nat)(d:Option Nat)(p:SetTable.Probe):Prop where
 e:p={ j:=i,more:=SetTable.runEnd t.mask i-i,i:=i,perturb:=perturb,dummy:=d }
theorem qW9{t:SetTable}{i q:Nat}{d:Option Nat}{p:SetTable.Probe}(h:Head t i q d p):∃n,n<=10/\Head t (SetTable.leap t.mask i q).1 (SetTable.leap t.mask i q).2 d (adv t n p):=by
 have hr:=qW7 t.mask i;refine⟨(SetTable.runEnd t.mask i-i)+1,by lia,⟨?_⟩⟩;rw[qu3,qW8 t _ p (by rw[h.e];exact Zf _)];show t.advance _=_;rw[h.e];unfold SetTable.advance;rw[Zh (by show ¬(SetTable.runEnd t.mask i-i)-(SetTable.runEnd t.mask i-i)>0;lia)]
theorem qX0{t:SetTable}{d:Option Nat}:∀(r:Nat){i q:Nat}{p:SetTable.Probe},Head t i q d p->∃n,n<=10*r/\(adv t n p).j=qe8 t.mask r i q/\(adv t n p).dummy=d
 |0,i,q,p,h=>⟨0,Zf _,by show p.j=i;rw[h.e],by show p.dummy=d;rw[h.e]⟩
 |r+1,i,q,p,h=>by
  obtain⟨n,hn,h1⟩:=qW9 h;obtain⟨m,hm,e1,e2⟩:=qX0 r h1;exact⟨n+m,by lia,by rw[qu3];exact e1,by rw[qu3];exact e2⟩
theorem qu4(t:SetTable):∀(n:Nat)(p:SetTable.Probe),(adv t n p).dummy=p.dummy
 |0,p=>rfl
 |n+1,p=>by
  show (adv t n (t.advance p)).dummy=_;rw[qu4 t n];unfold SetTable.advance;split<;>rfl
theorem qX1(h:Int):SetTable.bits h<2^64:=by
 unfold SetTable.bits;have:=X4 h (show (0:Int)<2^64 by decide);lia
theorem meet{t:SetTable}{k:Nat}(hm:t.mask=2^k-1)(h:Int){j:Nat}(hj:j<2^k):∃n,n<10*SetTable.turns t.mask/\(adv t n (t.probeStart h)).j=j:=by
 have hk:0<2^k:=XU k;have hd:Head t (SetTable.bits h%(t.mask+1)) (SetTable.bits h) none (t.probeStart h):=⟨rfl⟩;obtain⟨r,hr,e⟩:=qu2 k (SetTable.bits h%(t.mask+1)) (SetTable.bits h) j (by rw[hm];have:=Y6 (SetTable.bits h) hk;rw[show 2^k-1+1=2^k by lia];exact this) (qX1 h) hj;obtain⟨n,hn,e1,_⟩:=qX0 r hd;refine⟨n,?_,by rw[e1];rw[<- hm] at e;exact e⟩;unfold SetTable.turns;lia
theorem qL5(j:Nat):SetTable.has #[] j=false:=by
 unfold SetTable.has;simp
theorem qX2{t:SetTable}(hd:t.dummies=#[])(j:Nat):(t.slot j=.empty)\/∃i,t.slot j=.live i/\t.place[i]?=some j:=by
 unfold SetTable.slot;simp only;split
 ·rename_i h;exact .inr ⟨_,rfl,by simpa using h⟩
 ·rw[hd,qL5];exact .inl rfl
theorem qX3{t:SetTable}(hd:t.dummies=#[]){j:Nat}(h:j∉t.place.toList):t.slot j=.empty:=by
 rcases qX2 hd j with e|⟨i,_,e⟩
 ·exact e
 ·refine absurd ?_ h;have:=Array.mem_of_getElem? e;simpa using this
theorem xc9:∀(n:Nat)(l:List Nat),l.length<n->∃j,j<n/\j∉l
 |0,l,h=>absurd h (XV _)
 |n+1,l,h=>by
  by_cases hn:n∈l
  ·obtain⟨j,hj,hl⟩:=xc9 n (l.erase n) (by rw[List.length_erase_of_mem hn];have:=List.length_pos_of_mem hn;lia);refine⟨j,by lia,λm=>hl ?_⟩;exact (List.mem_erase_of_ne (by lia)).mpr m
  ·exact⟨n,ZL n,hn⟩
structure Grown(t:SetTable)(n:Nat):Prop where
 pl:t.place.size=n
 du:t.dummies=#[]
 ma:∃k,t.mask=2^k-1/\1<=k
 le:n<=t.mask
theorem Grown.fill{t:SetTable}{n:Nat}(h:Grown t n):t.fill=n:=by unfold SetTable.fill;rw[h.pl,h.du];rfl
theorem Grown.way{t:SetTable}{n:Nat}(h:Grown t n):t.gaveWay=false:=by
 obtain⟨k,e,hk⟩:=h.ma;unfold SetTable.gaveWay;rw[e];obtain⟨k,rfl⟩:∃m,k=m+1:=⟨k-1,by lia⟩;have:=XU k;have e2:(2^(k+1)-1)%2=1:=by rw[Yy];lia
 rw[e2]
 rfl
theorem Grown.meets{t:SetTable}{n:Nat}(g:Grown t n)(h:Int):∃m,m<10*SetTable.turns t.mask/\t.slot (adv t m (t.probeStart h)).j=.empty:=by
 obtain⟨k,e,_⟩:=g.ma;have hk:=XU k;obtain⟨j,hj,hl⟩:=xc9 (2^k) t.place.toList (by simp only[Z6,g.pl];have:=g.le;lia);obtain⟨m,hm,ej⟩:=meet e h hj;exact⟨m,hm,by rw[ej];exact qX3 g.du hl⟩
theorem qX4{t:SetTable}(hd:t.dummies=#[])(hashAt:Nat->Int)(h:Int):∀(f m:Nat)(p:SetTable.Probe),m<f->p.dummy=none->t.slot (adv t m p).j=.empty ->
  (∃j,SetTable.probe.go t hashAt h f p=some (.empty j none)) \/
  (∃m' j i,m'<m/\SetTable.probe.go t hashAt h f p=some (.candidate j i (adv t (m'+1) p))/\t.slot j=.live i/\t.place[i]?=some j/\hashAt i=h)
 |0,m,p,h1,_,_=>absurd h1 (XV _)
 |f+1,m,p,h1,hp,he=>by
  unfold SetTable.probe.go;rcases qX2 hd p.j with e|⟨i,e,e2⟩
  ·rw[e];exact .inl ⟨p.j,by rw[hp]⟩
  ·rw[e];cases m with
   |zero=>
    have he':t.slot p.j=.empty:=he;rw[e] at he';cases he'
   |succ m=>
    by_cases hc:hashAt i==h
    ·refine .inr ⟨0,p.j,i,Nat.succ_pos _,?_,e,e2,by simpa using hc⟩;simp only;rw[Zm hc]
     rfl
    ·simp only;rw[Zh hc];rcases qX4 hd hashAt h f m (t.advance p) (by lia) (by rw[<- hp];exact qu4 t 1 p) he with ⟨j,ej⟩|⟨m',j,i',hm',ej,r⟩
     ·exact .inl ⟨j,ej⟩
     ·exact .inr ⟨m'+1,j,i',by lia,ej,r⟩
theorem qm5{α:Type}(xs:Array α)(p:Nat)(x:α):(SetTable.insertAt xs p x).size=xs.size+1:=by
 unfold SetTable.insertAt;simp;lia
theorem qE1{α:Type}{xs:Array α}{p:Nat}{x y:α}(h:y∈SetTable.insertAt xs p x):y=x\/y∈xs:=by
 unfold SetTable.insertAt at h;rcases Array.mem_append.mp h with h|h
 ·rcases Array.mem_push.mp h with h|h
  ·obtain⟨i,hi,e⟩:=Wv.mp h;exact .inr (by rw[<- e];exact WY _)
  ·exact .inl h
 ·obtain⟨i,hi,e⟩:=Wv.mp h;exact .inr (by rw[<- e];exact WY _)
theorem Grown.put{t:SetTable}{n:Nat}(g:Grown t n)(hf:t.tooFull=false)(j:Nat):Grown (t.put j).1 (n+1):=by
 have e:(t.put j).1={ t with place:=SetTable.insertAt t.place (SetTable.below t.place j) j }:=by
  unfold SetTable.put;simp only;rw[g.du,qL5];simp[g.du]
 rw[e];refine⟨by rw[qm5,g.pl],g.du,g.ma,?_⟩;show n+1<=t.mask;unfold SetTable.tooFull at hf;rw[g.fill] at hf;have:=Yv hf;lia
theorem qE2{mask:Nat}{owner:Array (Option Nat)}:∀(f r i p:Nat),r<f->(owner.getD (qe8 mask r i p) (some 0)).isNone=true ->
  ∃j,SetTable.layClean.free mask owner f i p=some j/\(owner.getD j (some 0)).isNone=true
 |0,r,i,p,h,_=>absurd h (XV _)
 |f+1,r,i,p,h,hn=>by
  unfold SetTable.layClean.free;cases e:(List.range (SetTable.runEnd mask i+1-i)).find? λk=>(owner.getD (i+k) (some 0)).isNone with
  |some k=>
   have:=List.find?_some e;exact⟨i+k,rfl,this⟩
  |none=>
   cases r with
   |zero=>
    have h0:∀x∈List.range (SetTable.runEnd mask i+1-i),¬(owner.getD (i+x) (some 0)).isNone=true:=by simpa using e
    have hm:0∈List.range (SetTable.runEnd mask i+1-i):=ZW.mpr (by unfold SetTable.runEnd;split<;>lia);exact absurd hn (h0 0 hm)
   |succ r=>exact qE2 f r _ _ (by lia) hn
def cnt(owner:Array (Option Nat)):Nat:=(owner.toList.filter Option.isSome).length
theorem qr3:∀(l:List (Option Nat))(j k:Nat),l[j]?=some none->((l.set j (some k)).filter Option.isSome).length=(l.filter Option.isSome).length+1
 |[],j,k,h=>by simp at h
 |a::l,0,k,h=>by
  have:a=none:=by simpa using h
  subst this;simp
 |a::l,j+1,k,h=>by
  have ih:=qr3 l j k (by simpa using h);rw[List.set_cons_succ,Yw,Yw];split
  ·rw[ZK,ZK,ih]
  ·exact ih
theorem qX5:∀(l:List (Option Nat)),(l.filter Option.isSome).length<l.length->∃j:Nat,l[j]?=some none
 |[],h=>by simp at h
 |none::l,_=>⟨0,rfl⟩
 |some a::l,h=>by
  obtain⟨j,hj⟩:=qX5 l (by simpa using h);exact⟨j+1,by simpa using hj⟩
structure Laid(mask:Nat)(owner:Array (Option Nat))(K:Nat):Prop where
 sz:owner.size=mask+1
 ct:cnt owner=K
 lt:∀v,some v∈owner.toList->v<K
theorem Laid.step{mask k K:Nat}{owner:Array (Option Nat)}(hm:mask=2^k-1)(g:Laid mask owner K)(hK:K<=mask)(h:Int) :
  ∃j,SetTable.layClean.free mask owner (SetTable.turns mask) (SetTable.bits h%(mask+1)) (SetTable.bits h)=some j/\Laid mask (owner.setIfInBounds j (some K)) (K+1):=by
 have hk:=XU k;obtain⟨j0,hj0⟩:=qX5 owner.toList (by
  have:=g.ct;unfold cnt at this;rw[this,Z6,g.sz];lia)
 have hl:j0<mask+1:=by
  have:=(gS_ hj0).1;rw[Z6,g.sz] at this;exact this
 have e1:mask+1=2^k:=by lia
 obtain⟨r,hr,er⟩:=qu2 k (SetTable.bits h%(mask+1)) (SetTable.bits h) j0 (by rw[<- e1];exact Y6 _ (Nat.succ_pos _)) (qX1 h) (by lia);rw[<- hm] at er;have hgd:∀j,(owner.getD j (some 0)).isNone=true<->owner.toList[j]?=some none:=λj=>by
  rw[Array.getElem?_toList];by_cases hj:j<owner.size
  ·simp[Array.getD,hj]
  ·simp[Array.getD,hj]
 obtain⟨j,ej,hj⟩:=qE2 (mask:=mask) (owner:=owner) (SetTable.turns mask) r _ _ (by unfold SetTable.turns;lia) (by rw[er];exact (hgd j0).mpr hj0);have hj':=(hgd j).mp hj;refine⟨j,ej,by rw[Array.size_setIfInBounds];exact g.sz,?_,λv hv=>?_⟩
 ·unfold cnt;rw[WK,qr3 _ _ _ hj'];have:=g.ct;unfold cnt at this;rw[this]
 ·rw[WK] at hv;rcases List.mem_or_eq_of_mem_set hv with hv|hv
  ·have:=g.lt v hv;lia
  ·have:v=K:=by simpa using hv
   lia
theorem qL6{mask k:Nat}(hm:mask=2^k-1):∀(hs:List Int)(owner:Array (Option Nat))(K:Nat),Laid mask owner K->K+hs.length<=mask ->
  ∃owner',(hs.foldl (λ(acc:Option (Array (Option Nat)×Nat)) (h:Int)=>do
   let (owner,k) <- acc
   let j <- SetTable.layClean.free mask owner (SetTable.turns mask) (SetTable.bits h%(mask+1)) (SetTable.bits h)
   pure (owner.setIfInBounds j (some k),k+1)) (some (owner,K)))=some (owner',K+hs.length)/\Laid mask owner' (K+hs.length)
 |[],owner,K,g,_=>⟨owner,rfl,g⟩
 |h::hs,owner,K,g,hl=>by
  rw[ZK] at hl;obtain⟨j,ej,g'⟩:=g.step hm (by lia) h;obtain⟨o',e',g''⟩:=qL6 hm hs _ (K+1) g' (by lia);refine⟨o',?_,by rw[ZK,show K+(hs.length+1)=K+1+hs.length by lia];exact g''⟩;rw[XW,ZK,show K+(hs.length+1)=K+1+hs.length by lia,<- e'];congr 1;show (SetTable.layClean.free mask owner (SetTable.turns mask) (SetTable.bits h%(mask+1)) (SetTable.bits h)).bind _=_;rw[ej]
  rfl
theorem xh4{mask k:Nat}(hm:mask=2^k-1)(hs:Array Int)(hl:hs.size<=mask):∃owner,SetTable.layClean mask hs=some owner/\Laid mask owner hs.size:=by
 have g0:Laid mask (Array.replicate (mask+1) none) 0:=⟨by simp,by unfold cnt;simp,λv hv=>by simp at hv⟩;obtain⟨o,e,g⟩:=qL6 hm hs.toList _ 0 g0 (by simpa using hl);refine⟨o,?_,by simpa using g⟩;unfold SetTable.layClean;rw[<- Array.foldl_toList,e]
 rfl
theorem qz8{α β:Type}{f g:α->Option β}:∀(l:List α),(∀x∈l,f x=g x)->l.filterMap f=l.filterMap g
 |[],_=>rfl
 |a::l,h=>by
  rw[Yq,Yq,h a Zu,qz8 l λx hx=>h x (Zn _ hx)]
theorem qL7:∀(l:List (Option Nat))(a:Nat),((List.range' a l.length).filterMap λj=>((l[j-a]?).getD none).map (λv=>(j,v))).length=(l.filter Option.isSome).length
 |[],a=>rfl
 |x::l,a=>by
  rw[ZK,List.range'_succ,Yq];have ih:=qL7 l (a+1);have e:(List.range' (a+1) l.length).filterMap (λj=>(((x::l)[j-a]?).getD none).map (λv=>(j,v)))=(List.range' (a+1) l.length).filterMap λj=>((l[j-(a+1)]?).getD none).map (λv=>(j,v)):=by
   refine qz8 _ λj hj=>?_;have:=(List.mem_range'_1.mp hj).1;obtain⟨d,rfl⟩:∃d,j=a+1+d:=⟨j-(a+1),by lia⟩;rw[show a+1+d-a=d+1 by lia,show a+1+d-(a+1)=d by lia,List.getElem?_cons_succ]
  rw[e,Yz];cases x with
  |none=>simpa using ih
  |some v=>simpa using ih
theorem qX6{mask k finger moves:Nat}{led plain:Bool}(hm:mask=2^k-1)(h1:1<=k)(hs:Array Int)(hl:hs.size<=mask) :
  ∃t order,SetTable.laid mask finger moves led plain hs=some (t,order)/\Grown t hs.size/\t.mask=mask/\t.led=led/\t.moves=moves/\order.size=hs.size/\∀v∈order,v<hs.size:=by
 obtain⟨owner,e,g⟩:=xh4 hm hs hl;have el:∀a:Nat,(List.range (mask+1)).filterMap (λj=>(owner.getD j none).map (λv=>(j,v)))=(List.range' 0 owner.toList.length).filterMap λj=>((owner.toList[j-0]?).getD none).map (λv=>(j,v)):=λ_=>by
  rw[Z6,g.sz,<- List.range_eq_range'];refine qz8 _ λj hj=>?_;have hj':=ZW.mp hj;rw[Nat.sub_zero,Array.getElem?_toList];simp[Array.getD,g.sz,hj']
 have len:((List.range (mask+1)).filterMap (λj=>(owner.getD j none).map (λv=>(j,v)))).length=hs.size:=by
  rw[el 0,qL7,<- g.ct]
  rfl
 refine⟨_,_,by unfold SetTable.laid;rw[e];rfl,⟨?_,rfl,⟨k,hm,h1⟩,hl⟩,rfl,rfl,rfl,?_,λv hv=>?_⟩
 ·show ((((List.range (mask+1)).filterMap (λj=>(owner.getD j none).map (λv=>(j,v)))).map (·.1)).toArray).size=_;rw[ZA,Ze,len]
 ·show ((((List.range (mask+1)).filterMap (λj=>(owner.getD j none).map (λv=>(j,v)))).map (·.2)).toArray).size=_;rw[ZA,Ze,len]
 ·have hv':v∈((List.range (mask+1)).filterMap (λj=>(owner.getD j none).map (λv=>(j,v)))).map (·.2):=by simpa using hv
  obtain⟨q,hq,rfl⟩:=ZF.mp hv';obtain⟨j,hj,ej⟩:=WI.mp hq;obtain⟨v',ev,rfl⟩:=Zl.mp ej;refine g.lt v' ?_;have hj':=ZW.mp hj;have:owner[j]'(by rw[g.sz];exact hj')=some v':=by simpa [Array.getD,g.sz,hj'] using ev
  rw[<- this];simp
theorem qE3:∀(f k n:Nat),3<=k->n<2^(k+f)->∃k',SetTable.sizeAbove.go n f (2^k)=2^k'/\3<=k'/\n<2^k'/\(2^k<=2*n+8->2^k'<=2*n+8)
 |0,k,n,hk,h=>⟨k,rfl,hk,h,λz=>z⟩
 |f+1,k,n,hk,h=>by
  unfold SetTable.sizeAbove.go;by_cases hc:2^k<=n
  ·rw[Zm hc,<- Yy];obtain⟨k',e,h1,h2,h3⟩:=qE3 f (k+1) n (by lia) (by rw[show k+1+f=k+(f+1) by lia];exact h);exact⟨k',e,h1,h2,λ_=>h3 (by rw[Yy];lia)⟩
  ·rw[Zh hc];exact⟨k,rfl,hk,by lia,λz=>z⟩
theorem qr4{n:Nat}(h:n<2^60):∃k,SetTable.sizeAbove n=2^k/\3<=k/\n<2^k/\2^k<=2*n+8:=by
 obtain⟨k,e,h1,h2,h3⟩:=qE3 64 3 n (by decide) (W9 h (by decide));exact⟨k,e,h1,h2,h3 (by show 8<=2*n+8;lia)⟩
theorem qI9{t:SetTable}{hs:Array Int}{wanted:Nat}(hw:wanted<2^60)(hl:hs.size<wanted) :
  ∃t' order,t.relaid hs wanted=some (t',order)/\Grown t' hs.size/\wanted<=t'.mask/\t'.mask<=2*wanted+8/\t'.led=t.led/\order.size=hs.size/\∀v∈order,v<hs.size:=by
 obtain⟨k,e,h1,h2,h3⟩:=qr4 hw;obtain⟨t',order,el,g,em,eled,_,eo,ev⟩:=qX6 (mask:=2^k-1) (k:=k) (finger:=t.finger) (moves:=t.movedTo (2^k-1)) (led:=t.led) (plain:=t.plain) rfl (by lia) hs (by lia);refine⟨t',order,?_,g,by rw[em];lia,by rw[em];lia,eled,eo,ev⟩;unfold SetTable.relaid;rw[e];exact el
theorem qX7{α:Type}{es:Array α}{order:Array Nat}(h:∀v∈order,v<es.size):(order.filterMap (es[·]?)).size=order.size:=by
 rw[<- Z6,Array.toList_filterMap,<- Z6 (xs:=order)];have:∀l:List Nat,(∀v∈l,v<es.size)->(l.filterMap (es[·]?)).length=l.length:=λl=>by
  induction l with
  |nil=>intro _;rfl
  |cons a l ih=>
   intro hh;rw[Yq];have ha:=hh a Zu;rw[show es[a]?=some es[a] by simp[ha]];simp[ih λv hv=>hh v (Zn _ hv)]
 exact this _ λv hv=>h v (by simpa using hv)
theorem q73{α:Type}{es:Array α}{order:Array Nat}{y:α}(h:y∈order.filterMap (es[·]?)):y∈es:=by
 obtain⟨v,_,e⟩:=Array.mem_filterMap.mp h;exact Array.mem_of_getElem? e
end SetT
namespace SetT
open PySem PySem.Spec PyProof.Rows
section
variable{prog:Program}{w:World}{K:Type}[DecidableEq K]{knd:KeyKind prog w K}{A:Around}{E:Value->Shared->Prop}{s:Shared}
theorem qu5(n:Nat){v:Value}(h:carriedByValue v=true):ofAClassStatement n v=pure false:=by
 cases v with
 |ref a=>simp[carriedByValue] at h
 |_=>first|rfl|(unfold ofAClassStatement;rfl)|(cases n<;>rfl)
theorem seqItems?_of{M:Model}{a:Addr}{o:Obj}{items:Array Value}{n:Nat}{Q:Option (Array Value)->Shared->Prop}(ho:s.heap.get? a=some o)(hd:o.data=.seq items n)(h:Q (some items) s) :
  wpAny M A (seqItems? (.ref a)) Q E s:=WL ho hd h
theorem qm6{ks:List K}{a:Addr}{Q:Bool->Shared->Prop}(hk:IsTupleKey knd s.heap ks a)(h:Q false s):wpAny (model prog w) A (ofAClassStatement 8 (.ref a)) Q E s:=by
 have hT:=hk.typeIs;obtain⟨o,items,n,ho,_,hd,hi⟩:=hk;unfold ofAClassStatement;refine Za (WG hT ?_);show wpAny _ _ ((if ("tuple" == "tuple")=true then pure true else isSubtype (.type "tuple") (.type "tuple")) >>= _) _ _ s;rw[Zm (by decide)];refine Za (Zb ?_);simp only[YA,Zt,ZP];refine Za (seqItems?_of ho hd ?_);dsimp only;refine Za ?_;rw[<- X5];refine Xg _ (λrest r s'=>r.1=none/\s'=s/\∀v∈rest,carriedByValue v=true) _ ?_ ?_ _ _ ⟨rfl,rfl,hi.byValue⟩
 ·rintro v rest r s' ⟨hr,rfl,jI⟩;rw[qu5 _ (jI v Zu)];refine Za (Zb ?_);simp only[Zt,ZP];exact Zb ⟨rfl,rfl,λu hu'=>jI u (Zn _ hu')⟩
 ·rintro⟨r1,r2⟩ s' ⟨hr,rfl,_⟩;simp only at hr;subst hr;exact Zb h
theorem xp2{ks:List K}{a:Addr}{Q:Bool->Shared->Prop}(hk:IsTupleKey knd s.heap ks a)(h:Q false s){stored:List Value}(kR:∀y∈stored,∃b ks',y=.ref b/\IsTupleKey knd s.heap ks' b) :
  wpAny (model prog w) A (searchCouldBeSeen (.ref a) stored) Q E s:=by
 unfold searchCouldBeSeen;refine Za ?_;refine Xg _ (λrest r s'=>r.1=none/\s'=s/\∀y∈rest,∃b ks',y=.ref b/\IsTupleKey knd s.heap ks' b) _ ?_ ?_ _ _ ⟨rfl,rfl,kR⟩
 ·rintro y rest r s' ⟨hr,rfl,jI⟩;obtain⟨b,ks',rfl,hb⟩:=jI y Zu;have rest':∀y∈rest,∃b ks',y=.ref b/\IsTupleKey knd s'.heap ks' b:=λu hu'=>jI u (Zn _ hu');dsimp only;split
  ·exact Zb ⟨rfl,rfl,rest'⟩
  ·refine Za (wpAny_eqIsQuiet_tuple hk ?_);simp only[YA,Zt,ZP];refine Za (wpAny_eqIsQuiet_tuple hb ?_);simp only[YA,Zt,ZP];refine Za (qm6 hk ?_);simp only[Zt,ZP];refine Za (qm6 hb ?_);simp only[Zt,ZP];exact Zb ⟨rfl,rfl,rest'⟩
 ·rintro⟨r1,r2⟩ s' ⟨hr,rfl,_⟩;simp only at hr;subst hr;exact Zb h
def Hb(v:Value):Prop:=∃b,∀n,hashByValue n v=pure b
theorem Hb.int(k:Int)(t:Tok):Hb (.int k t):=⟨true,λn=>by cases n<;>rfl⟩
theorem Hb.str(x:Str)(t:Tok):Hb (.str x t):=⟨false,λn=>by cases n<;>rfl⟩
theorem qE4{a:Addr}{o:Obj}{items:Array Value}{n:Nat}{Q:Bool->Shared->Prop}(ho:s.heap.get? a=some o)(hc:o.cls=.type "tuple")(hd:o.data=.seq items n)(hi:∀v∈items.toList,Hb v)(h:∀b,Q b s) :
  wpAny (model prog w) A (hashByValue 8 (.ref a)) Q E s:=by
 have hT:s.TypeIs (.ref a) "tuple":=⟨o,ho,hc⟩;unfold hashByValue;refine Za (YX hT Xv.lookup ?_);dsimp only;refine Za (seqItems?_of ho hd ?_);dsimp only [Option.getD];refine Za ?_;rw[<- X5];refine Xg _ (λrest r s'=>r.1=none/\s'=s/\∀v∈rest,Hb v) _ ?_ ?_ _ _ ⟨rfl,rfl,hi⟩
 ·rintro v rest r s' ⟨hr,rfl,jI⟩;obtain⟨b,hb⟩:=jI v Zu;rw[hb];refine Za (Zb ?_);cases b with
  |true=>
   simp only[YA,Zt,ZP];exact Zb ⟨rfl,rfl,λu hu'=>jI u (Zn _ hu')⟩
  |false=>
   simp only[YU,Yt];exact Zb (Zb (h false))
 ·rintro⟨r1,r2⟩ s' ⟨hr,rfl,_⟩;simp only at hr;subst hr;exact Zb (h true)
theorem Grown.fits{t:SetTable}{n:Nat}(g:Grown t n):t.fits n=true:=by
 unfold SetTable.fits;rw[g.pl,g.fill];simp[g.le]
theorem qE5{t:SetTable}{f:Nat->Int}{h:Int}{p:SetTable.Probe}{pr:Option SetTable.Met}{m:Nat}(hp:t.probe f h p=pr)(hd:t.dummies=#[])(hm:m<10*SetTable.turns t.mask)(hdm:p.dummy=none)(he:t.slot (adv t m p).j=.empty) :
  (∃j,pr=some (.empty j none))\/(∃m' j i,m'<m/\pr=some (.candidate j i (adv t (m'+1) p))/\t.slot j=.live i/\t.place[i]?=some j):=by
 subst hp;rcases qX4 hd f h (10*SetTable.turns t.mask) m p hm hdm he with ⟨j,e⟩|⟨m',j,i,h1,e,h2,h3,_⟩
 ·exact .inl ⟨j,e⟩
 ·exact .inr ⟨m',j,i,h1,e,h2,h3⟩
theorem xp3{a b:Addr}{o:Obj}{es:Array (Int×Value)}{ep:Nat}{t:SetTable}{ks:List K}{h:Int}{Q:SetFound->Shared->Prop}(hu:A.units<cLine)
  (ho:s.heap.get? a=some o) (hd:o.data=.set es ep t) (g:Grown t es.size) (hk:IsTupleKey knd s.heap ks b) (vL:∀e∈es,∃b' ks',e.2=.ref b'/\IsTupleKey knd s.heap ks' b'/\ks'≠ks) (q:∀j,Q (.free j false) s) :
  ∀(m fuel:Nat)(stand:Option SetTable.Probe),m<fuel->m<10*SetTable.turns t.mask->(stand.getD (t.probeStart h)).dummy=none->t.slot (adv t m (stand.getD (t.probeStart h))).j=.empty ->
   wpAny (model prog w) A (setSearchFrom a (.ref b) h true fuel stand) Q E s:=by
 intro m
 induction m using Nat.strongRecOn with
 |ind m ih=>
  intro fuel stand hf hm hdm he;cases fuel with
  |zero=>exact absurd hf (XV _)
  |succ fuel=>
   unfold setSearchFrom;refine Za (Y0 ho hd g.fits ?_);dsimp only;rw[g.way];simp only[Zt,ZP];split
   ·rename_i met hp;rcases qE5 hp g.du hm hdm he with ⟨j,ej⟩|⟨m',j,i,hm',ej,sl,pl⟩
    ·cases ej;dsimp only;exact Zb (q j)
    ·cases ej;dsimp only;have hi:i<es.size:=by
      have:=(Array.getElem?_eq_some_iff.mp pl).1;rw[g.pl] at this;exact this
     obtain⟨b',ks',e2,hk',jB⟩:=vL es[i] (WY hi);have hei:es[i]?=some (es[i].1,.ref b'):=by
      rw[<- e2];simp[hi]
     have sm:t.sameMemory t.moves t.mask=some true:=by
      unfold SetTable.sameMemory;rw[Zm (by simp)]
     have nx:∀fuel',m<fuel'+1->wpAny (model prog w) A (setSearchFrom a (.ref b) h true fuel' (some (adv t (m'+1) (stand.getD (t.probeStart h))))) Q E s:=λfuel' hf'=>
      ih (m-(m'+1)) (by lia) fuel' _ (by lia) (by lia) (by show (adv t (m'+1) _).dummy=none;rw[qu4];exact hdm) (by
       show t.slot (adv t (m-(m'+1)) (adv t (m'+1) _)).j=.empty;rw[<- qu3,show m'+1+(m-(m'+1))=m by lia];exact he)
     have seen:∀y∈(es.filter (·.1==h)).toList.map (·.2),∃b ks',y=.ref b/\IsTupleKey knd s.heap ks' b:=λy hy=>by
      obtain⟨e,he',rfl⟩:=ZF.mp hy;have:e∈es:=by
       have:=(Array.mem_filter.mp (show e∈es.filter (·.1==h) by simpa using he')).1;exact this
      obtain⟨b'',ks'',x1,x2,_⟩:=vL e this;exact⟨b'',ks'',x1,x2⟩
     cases hl:t.led with
     |false=>
      simp only[YU,Yt];refine Za (xp2 hk ?_ seen);simp only[Zt,ZP];rw[hei];dsimp only;refine Za (Z3 (wpAny_eqBool_tuple hu hk' hk ?_));rw[Zp jB];refine Za (Y0 ho hd g.fits ?_);dsimp only;simp only[Yh,Zt,ZP];rw[sm];dsimp only;simp only[Yt];rw[sl];dsimp only;rw[hei];dsimp only;refine Za (wpAny_isSame_ref_self ?_);refine Za (Zb ?_);simp only[Yt];exact nx fuel hf
     |true=>
      simp only[YA,Zt,ZP];rw[hei];dsimp only;refine Za (Z3 (wpAny_eqBool_tuple hu hk' hk ?_));rw[Zp jB];refine Za (Y0 ho hd g.fits ?_);dsimp only;simp only[Yh,Zt,ZP];rw[sm];dsimp only;simp only[Yt];rw[sl];dsimp only;rw[hei];dsimp only;refine Za (wpAny_isSame_ref_self ?_);refine Za (Zb ?_);simp only[Yt];exact nx fuel hf
   ·rename_i hp;exact Or.elim (qE5 rfl g.du hm hdm he) (λ⟨j,e⟩=>(hp _ e).elim) (λ⟨_,_,_,_,e,_⟩=>(hp _ e).elim)
structure SetR(knd:KeyKind prog w K)(h:Heap)(a:Addr)(Ks:List (List K))(n:Nat):Prop where
 ex:∃o es ep t,h.get? a=some o/\o.ExactSet/\o.data=.set es ep t/\Grown t es.size/\t.tooFull=false/\t.mask<=8*n+8/\es.size=n/\∀e∈es,∃b ks,e.2=.ref b/\ks∈Ks/\IsTupleKey knd h ks b
theorem qE6{h:Heap}{a b:Addr}{o:Obj}{ks:List K}{es:Array (Int×Value)}{ep:Nat}{t:SetTable}(x:IsTupleKey knd h ks b)(ho:h.get? a=some o)(hd:o.data=.set es ep t):b≠a:=by
 rintro rfl;obtain⟨o',items,n,ho',_,hd',_⟩:=x;obtain rfl:o'=o:=ZC (ho'.symm.trans ho);rw[hd] at hd';exact nomatch hd'
theorem qE7{h h':Heap}{a b:Addr}{ks:List K}(x:IsTupleKey knd h ks b)(jB:b≠a)(hs:Heap.SameBut a h h'):IsTupleKey knd h' ks b:=by
 obtain⟨o',items,n,ho',hc,hd',hi⟩:=x;exact⟨o',items,n,(hs.2 b jB).trans ho',hc,hd',hi⟩
theorem qX8{h:Heap}{a:Addr}{o:Obj}{es es':Array (Int×Value)}{ep:Nat}{t t':SetTable}(ho:h.get? a=some o)(hd:o.data=.set es ep t) :
  (h.update a (Obj.putSet es' t')).get? a=some { o with data:=.set es' (ep+1) t' }:=by
 have:=Xo (Obj.putSet es' t') ho (by rw[putSet_of es' t' hd];rfl);rw[putSet_of es' t' hd] at this;exact this
theorem xh5{a b:Addr}{ks:List K}{Ks:List (List K)}{n:Nat}{h:Int}{Q:Bool->Shared->Prop}(hu:A.units<cLine)(S:SetR knd s.heap a Ks n)(hk:IsTupleKey knd s.heap ks b)(hHb:∀o items m,s.heap.get? b=some o->o.data=.seq items m->∀v∈items.toList,Hb v)
  (hn:ks∉Ks) (hsz:n<1200) (q:∀h',Heap.SameBut a s.heap h'->SetR knd h' a (ks::Ks) (n+1)->Q true { s with heap:=h' }) :
  wpAny (model prog w) A (setAddHashed a (.ref b) h) Q E s:=by
 obtain⟨o,es,ep,t,ho,vD,hd,g,hf,hmk,rfl,vL⟩:=S.ex;unfold setAddHashed setAddHashedIn;refine Z3 (Za (Y0 ho hd g.fits ?_));dsimp only;have hby:byScan (.ref b) es=false:=rfl;rw[hby];simp only[Zt,ZP];obtain⟨m,hm,hslot⟩:=g.meets h;have vC:m<100000:=by
  unfold SetTable.turns at hm;lia
 refine Za (xp3 hu ho hd g hk (λe he=>?_) (λj=>?_) m 100000 none vC hm rfl hslot)
 ·obtain⟨b',ks',e1,e2,e3⟩:=vL e he;exact⟨b',ks',e1,e3,λz=>hn (by rw[<- z];exact e2)⟩
 dsimp only;refine Za (Y0 ho hd g.fits ?_);dsimp only;have g1:=g.put hf j;generalize hp:t.put j=tp at g1;obtain⟨t1,p⟩:=tp;dsimp only at g1 ⊢;have hmk1:t1.mask=t.mask:=by
  have:(t.put j).1.mask=t.mask:=rfl;rw[hp] at this;exact this
 have hba:b≠a:=qE6 hk ho hd;have mem1:∀{h1:Heap},Heap.SameBut a s.heap h1->∀e∈SetTable.insertAt es p (h,Value.ref b),∃b' ks',e.2=.ref b'/\ks'∈ks::Ks/\IsTupleKey knd h1 ks' b':=λ{h1} hs e he=>by
  rcases qE1 he with rfl|he
  ·exact⟨b,ks,rfl,Zu,qE7 hk hba hs⟩
  ·obtain⟨b',ks',e1,e2,e3⟩:=vL e he;exact⟨b',ks',e1,Zn _ e2,qE7 e3 (qE6 e3 ho hd) hs⟩
 have sz1:(SetTable.insertAt es p (h,Value.ref b)).size=es.size+1:=qm5 _ _ _;have room:es.size+1<=sizeLine:=by rw[YZ];lia
 have tail:∀t2:SetTable,Grown t2 (es.size+1)->t2.mask=t.mask->wpAny (model prog w) A (do
   storeSet a (SetTable.insertAt es p (h,Value.ref b)) t2
   if (!false&&t2.tooFull)=true then do
     setRelay a (SetTable.grown (es.size+1))
     pure true
    else pure true) Q E s:=λt2 g2 hm2=>by
  refine Za (wpAny_storeSet_of ho hd ?_ (by rw[sz1];exact room));have ho1:=qX8 (es':=SetTable.insertAt es p (h,Value.ref b)) (t':=t2) ho hd;have hs1:=YK s.heap a (Obj.putSet (SetTable.insertAt es p (h,Value.ref b)) t2);cases ht:t2.tooFull with
  |false=>
   simp only[Yh,Zt,ZP];refine Zb (q _ hs1 ⟨_,_,_,t2,ho1,vD,rfl,by rw[sz1];exact g2,ht,by lia,sz1,mem1 hs1⟩)
  |true=>
   simp only[YU,Y7,Yt];refine Za ?_;unfold setRelay;refine Za (Y0 ho1 rfl (by rw[sz1];exact g2.fits) ?_);dsimp only;have gw:SetTable.grown (es.size+1)=(es.size+1)*4:=by
    unfold SetTable.grown;rw[Zh (by lia)]
   obtain⟨k,ek,_,_,hk3⟩:=qr4 (n:=SetTable.grown (es.size+1)) (by rw[gw];lia);rw[Zh (by rw[ek,YZ];rw[gw] at hk3;lia)];obtain⟨t3,order,er,g3,hw1,hw2,_,eo,ev⟩:=qI9 (t:=t2) (hs:=(SetTable.insertAt es p (h,Value.ref b)).map (·.1)) (wanted:=SetTable.grown (es.size+1)) (by rw[gw];lia) (by rw[Array.size_map,sz1,gw];lia);rw[Array.size_map] at g3 eo ev;rw[er];have es2:(order.filterMap ((SetTable.insertAt es p (h,Value.ref b))[·]?)).size=es.size+1:=by rw[qX7 ev,eo,sz1]
   refine Za ?_;show wpAny _ _ (if ((order.filterMap ((SetTable.insertAt es p (h,Value.ref b))[·]?)).size != (SetTable.insertAt es p (h,Value.ref b)).size)=true then _ else _) _ _ _;rw[Zh (by rw[es2,sz1];simp)];refine Zb ?_;dsimp only;refine wpAny_storeSet_of ho1 rfl ?_ (by rw[es2];exact room);have k8:=qX8 (es':=order.filterMap ((SetTable.insertAt es p (h,Value.ref b))[·]?)) (t':=t3) ho1 rfl;have kY:=hs1.trans (YK _ a (Obj.putSet (order.filterMap ((SetTable.insertAt es p (h,Value.ref b))[·]?)) t3));refine Zb (q _ kY ⟨_,_,_,t3,k8,vD,rfl,by rw[es2,<- sz1];exact g3,?_,?_,es2,λe he=>mem1 kY e (q73 he)⟩)
   ·unfold SetTable.tooFull;rw[g3.fill,sz1];rw[gw] at hw1;exact Zp (by lia)
   ·rw[gw] at hw2;lia
 cases jF:t1.plain with
 |false=>
  simp only[Zt,ZP];refine Za (Zb ?_);simp only[Yt];exact tail t1 g1 hmk1
 |true=>
  simp only[Yt];obtain⟨ob,items,nn,hb1,kE,kW,_⟩:=id hk;refine Za (qE4 hb1 kE kW (hHb _ _ _ hb1 kW) λc=>?_);cases c with
  |true=>
   simp only[Yt];exact tail t1 g1 hmk1
  |false=>
   simp only[Zt,ZP];exact tail { t1 with plain:=false } ⟨g1.pl,g1.du,g1.ma,g1.le⟩ hmk1
end
section
variable{prog:Program}{w:World}{K:Type}[DecidableEq K]{knd:KeyKind prog w K}
def TupK(knd:KeyKind prog w K)(h:Heap)(ks:List K)(b:Addr):Prop:=∃o items n,h.get? b=some o/\o.cls=.type "tuple" /\ o.data=.seq items n/\ItemsAre knd ks items.toList/\∀v∈items.toList,Hb v
theorem TupK.key{h:Heap}{ks:List K}{b:Addr}(x:TupK knd h ks b):IsTupleKey knd h ks b:=let ⟨o,items,n,h1,h2,h3,h4,_⟩:=x;⟨o,items,n,h1,h2,h3,h4⟩
theorem TupK.hb{h:Heap}{ks:List K}{b:Addr}(x:TupK knd h ks b):∀o items m,h.get? b=some o->o.data=.seq items m->∀v∈items.toList,Hb v:=λo items m e1 e2=>by
 obtain⟨o',items',n',h1,_,h3,_,h5⟩:=x;rw[e1] at h1;cases h1;rw[e2] at h3;cases h3;exact h5
theorem TupK.at{h h':Heap}{ks:List K}{b:Addr}(x:TupK knd h ks b)(k:∀o,h.get? b=some o->h'.get? b=some o):TupK knd h' ks b:=let ⟨o,items,n,h1,r⟩:=x;⟨o,items,n,k o h1,r⟩
theorem SetR.at{h h':Heap}{a:Addr}{Ks:List (List K)}{n:Nat}(S:SetR knd h a Ks n)(k:∀b o,h.get? b=some o->h'.get? b=some o\/b≠a/\¬∃ks,IsTupleKey knd h ks b):SetR knd h' a Ks n:=by
 obtain⟨o,es,ep,t,ho,vD,hd,g,hf,hmk,hn,vL⟩:=S.ex;refine⟨o,es,ep,t,?_,vD,hd,g,hf,hmk,hn,λe he=>?_⟩
 ·rcases k a o ho with z|z
  ·exact z
  ·exact absurd rfl z.1
 ·obtain⟨b,ks,e1,e2,e3⟩:=vL e he;refine⟨b,ks,e1,e2,?_⟩;obtain⟨o',items,n',ho',r⟩:=id e3;rcases k b o' ho' with z|z
  ·exact⟨o',items,n',z,r⟩
  ·exact absurd ⟨ks,e3⟩ z.2
variable{A:Around}{R:Result->Shared->Prop}{I:Addr}{fp wr:List Addr}{G:Array GenState->Array GenState->Prop}{n:Nat}{P:Nat->Value->Prop}{St:Nat->Shared->Prop}
def xp4(knd:KeyKind prog w K)(S:Addr)(wr:List Addr)(P:Nat->Value->Prop)(val:Nat->List K)(h:Heap):Prop:=∀i v,P i v->∃b,v=.ref b/\b≠S/\b∉wr/\TupK knd h (val i) b
def xw6(knd:KeyKind prog w K)(wr:List Addr)(h:Heap):Prop:=∀b∈wr,¬∃ks,IsTupleKey knd h ks b
theorem qX9(W:WalksS prog w A.in1 I fp wr G n P St)(S:Addr)(hSf:S∉fp)(val:Nat->List K)(dist:∀i j,i<j->j<n->val i≠val j)(hn:n<=1200)(hu:A.in1.units<cLine)
  (nt:∀i s,St i s->xw6 knd wr s.heap) :
  ∀(k i:Nat)(s:Shared),n-i=k->i<=n->St i s->xp4 knd S wr P val s.heap->(∃Ks,SetR knd s.heap S Ks i/\∀ks∈Ks,∃j,j<i/\ks=val j) ->
   (∀s',Moved (S::wr) G s s'->(∃Ks,SetR knd s'.heap S Ks n)->R (.ok (.ret .none)) s') ->
   codeAny (model prog w) A (.builtin "set.update.loop" ⟨[.ref S,.ref I],[]⟩) R s:=by
 have hSw:S∉wr:=λz=>hSf (W.sub _ z);have up:∀b∈wr,b∈S::wr:=λb hb=>Zn _ hb;have stays:∀{i:Nat}{s s':Shared}{Ks:List (List K)}{m:Nat},St i s->Moved wr G s s'->SetR knd s.heap S Ks m->SetR knd s'.heap S Ks m:=λ{i s s' Ks m} st mv S0=>S0.at λb o e=>by
  by_cases hb:b∈wr
  ·exact .inr ⟨λz=>hSw (by rw[<- z];exact hb),nt i s st b hb⟩
  ·exact .inl (mv.heap b o hb e)
 intro k
 induction k with
 |zero=>
  intro i s hk hi st its hS hR;have kK:i=n:=by lia
  subst kK;obtain⟨Ks,S0,_⟩:=hS;refine YY XI ?_;rw[Y1 YL _];refine Za (W.done s _ _ st λs' mv=>?_);exact Zb (hR s' (mv.mono up) ⟨Ks,stays st mv S0⟩)
 |succ k ih=>
  intro i s hk hi st its hS hR;obtain⟨Ks,S0,hKs⟩:=hS;have j5:i<n:=by lia
  refine YY XI ?_;rw[Y1 YL _];refine Za (W.item i s _ _ j5 st λv s' hP st' mv=>?_);obtain⟨b,rfl,hbS,hbw,hb⟩:=its i v hP;have hb':TupK knd s'.heap (val i) b:=hb.at λo e=>mv.heap b o hbw e;have S1:SetR knd s'.heap S Ks i:=stays st mv S0;refine Za (Z3 ?_);unfold setAdd;refine Z3 ?_;refine Za (wpAny_pyHash_tuple hu hb'.key ?_);refine xh5 (s:={ s' with toks:=s'.toks+((val i).length+1) }) hu S1 hb'.key hb'.hb (λz=>?_) (by lia) λh' hsb S2=>?_
  ·obtain⟨j,hj,e⟩:=hKs _ z;exact dist j i hj j5 e.symm
  ·have its':xp4 knd S wr P val h':=λj u hPj=>by
    obtain⟨c,rfl,h1,h2,h3⟩:=its j u hPj;exact⟨c,rfl,h1,h2,(h3.at λo e=>mv.heap c o h2 e).at λo e=>(hsb.2 c h1).trans e⟩
   refine Zb ⟨plainId_quiet YL _,ih (i+1) _ (by lia) j5 (W.frame _ s' _ _ st' (Xh _ _) λc hc o e=>?_) its' ⟨val i::Ks,S2,λks hks=>?_⟩ λs'' mv'' fin=>?_⟩
   ·rw[hsb.2 c (λz:c=S=>hSf (by rw[<- z];exact hc))];exact e
   ·rcases Zv.mp hks with rfl|hks
    ·exact⟨i,ZL i,rfl⟩
    ·obtain⟨j,hj,e⟩:=hKs ks hks;exact⟨j,by lia,e⟩
   ·refine hR s'' (Moved.trans W.gtrans ((mv.mono up).then_heap (Xh _ _) λc o hc e=>?_) mv'') fin;rw[hsb.2 c (λz:c=S=>hc (by rw[z];exact Zu))];exact e
end
end SetT
namespace SetT
open PySem PySem.Spec
section
variable{prog:Program}{w:World}{K:Type}[DecidableEq K]{knd:KeyKind prog w K}{A:Around}{E:Value->Shared->Prop}{s:Shared}
abbrev newS(led:Bool):Obj:={ cls:=.type "set",dict:=none,data:=.set #[] 0 (.fresh 0 0 led) }
theorem qQ6{h:Heap}{a:Addr}{led:Bool}(e:h.get? a=some (newS led)):SetR knd h a [] 0:=
 ⟨_,#[],0,.fresh 0 0 led,e,⟨rfl,rfl,rfl⟩,rfl,⟨rfl,rfl,⟨3,rfl,by decide⟩,Zx _⟩,by rfl,(by show 7<=8*0+8;decide),rfl,λe he=>by simp at he⟩
theorem call_set_tuple{l:Addr}{items:Array Value}{val:Nat->List K}{Q:Value->Shared->Prop}(hh:A.handled=none)(hu:A.units+8<cLine)(hl:s.heap.IsTuple l items)
  (hi:∀(i:Nat)(v:Value),items[i]?=some v->∃b,v=.ref b/\TupK knd s.heap (val i) b) (dist:∀i j,i<j->j<items.size->val i≠val j) (hb:items.size<=1200)
  (h:∀(h':Heap)(tk:Nat),(∃Ks,SetR knd h' s.heap.objs.size Ks items.size)->(∀b o,b<s.heap.objs.size->s.heap.get? b=some o->h'.get? b=some o)->Q (.ref s.heap.objs.size) { s with heap:=h',toks:=tk }) :
  wpAny (model prog w) A (call (.type "set") [.ref l]) Q E s:=by
 obtain⟨c,tl,hmro⟩:=F.called_set.mro;have made0:=F.called_set.made;have sub0:=F.called_set.sub;refine wpAny_call (codeAny_of_tree ?_);show wpAny _ _ (callAny (.type "set") _) _ _ _;refine Zb ⟨Code.quiet_builtin _ (by decide +kernel),YY F.entry_type_call ?_⟩;rw[Around.under_plain (weight_type_call_type "set" [.ref l] []) rfl];have f1:=F.called_set.notType;have f2:=F.called_set.canCreate;have f3:=F.typeCall_set_1 (.ref l)
 repeat (any_goals first|assumption|wp_step)
 refine We (code_set_new_1 (.ref l) (E:=E) (Q₁:=λobj s₁=>∃led:Bool,obj=.ref s.heap.objs.size/\s₁={ s with heap:=s.heap.push (newS led) }) λled=>⟨led,rfl,rfl⟩) λr s₁ hr=>?_;cases r with
 |error e=>exact hr
 |ok fl=>
  cases fl with
  |ret obj=>
   obtain⟨led,rfl,rfl⟩:=hr;have hS:(s.heap.push (newS led)).get? s.heap.objs.size=some (newS led):=Zj _ rfl;have hT:Shared.TypeIs { s with heap:=s.heap.push (newS led) } (.ref s.heap.objs.size) "set":=⟨_,hS,rfl⟩;have i1:=F.called_set.init.lookup;have i2:=F.called_set.init.bind (.ref s.heap.objs.size)
   repeat (any_goals first|assumption|wp_step)
   refine We (Ww (R:=wants (λr s₂=>r=.none/\∃h' tk,s₂={ s with heap:=h',toks:=tk }/\(∃Ks,SetR knd h' s.heap.objs.size Ks items.size) /\
     (∀b o,b<s.heap.objs.size->s.heap.get? b=some o->h'.get? b=some o)) E) F.called_set.init.plain F.entry_set_init (check_set_init_1 hT ?_)) λr₂ s₂ hr₂=>?_
   ·obtain⟨ol,hol,jS,nl,hdl⟩:=id hl;obtain⟨ocls,odict,odata,oslots⟩:=ol;simp only at jS hdl;subst jS;subst hdl;have hol':(s.heap.push (newS led)).get? l=some { cls:=.type "tuple",dict:=odict,data:=.seq items nl,slots:=oslots }:=Zc _ hol;have st1:=F.sub_tuple_set;have st2:=F.sub_tuple_frozenset;have ned:(Value.type "tuple" == Value.type "dict")=false:=by decide
    have vH:(s.heap.push (newS led)).IsTuple l items:=⟨_,hol',rfl,nl,rfl⟩;unfold Builtin.«set.__init__» noKeywords Builtin.Frozenset.updateFrom;generalize hPI:pyIter=PI
    wp_walk
    subst hPI;refine XZ vH ?_;refine Za (wpAny_runValue ?_);have hlS:l<s.heap.objs.size:=Zr hol;have hsz:(s.heap.push (newS led)).objs.size=s.heap.objs.size+1:=YC _ _;have hneI:l≠(s.heap.push (newS led)).objs.size:=by rw[hsz];exact ZB (Y2 hlS)
    have hSf:s.heap.objs.size∉[(s.heap.push (newS led)).objs.size,l]:=by
     rw[hsz];simp only[Zv,ZR,XA,not_or];exact⟨ZB (ZL _),WE hlS⟩
    refine qX9 (knd:=knd) ((Walks.tuple (by simp[hh]) _ l hneI items).toS) s.heap.objs.size hSf val dist hb (by show A.units+1+1+1<cLine;lia) (λi s' st b hbw=>?_) (items.size-0) 0 _ (by lia) (Zx _)
     ⟨⟨_,Zj _ rfl,rfl,rfl⟩,vH.push _⟩ (λi v hv=>?_) ⟨[],qQ6 (Zc _ hS),λks hks=>nomatch hks⟩ λs' mv fin=>?_
    ·rintro⟨ks,o',its',n',e1,e2,e3,_⟩;have:b=(s.heap.push (newS led)).objs.size:=by simpa using hbw
     subst this;obtain⟨oi,x1,x2,x3⟩:=st.1;rw[x1] at e1;cases e1;rw[x2] at e2;injection e2 with e2
     exact absurd e2 (by decide)
    ·obtain⟨b,rfl,hb'⟩:=hi i v hv;have j5:b<s.heap.objs.size:=by obtain⟨o',_,_,e1,_⟩:=hb';exact Zr e1
     refine⟨b,rfl,ZB j5,(by rw[hsz];simp only[Zv,ZR,XA];exact ZB (Y2 j5)),hb'.at λo e=>Zc _ (Zc _ e)⟩
    ·obtain⟨h',g',d',tk',os'⟩:=s';have eg:g'=s.gens:=mv.gens;have ed:d'=s.drawn:=mv.drawn;have eo:os'=s.os:=mv.os;subst eg;subst ed;subst eo;show wpAny _ _ _ _ _ _;refine Zb ?_;show wpAny _ _ (ret Value.none) _ _ _;refine Zb ⟨rfl,h',tk',rfl,fin,λb o j5 e=>?_⟩;exact mv.heap b o (by rw[hsz];simp only[Zv,ZR,XA,not_or];exact⟨ZB j5,ZB (Y2 j5)⟩) (Zc _ (Zc _ e))
   ·cases r₂ with
    |error e=>exact hr₂
    |ok fl₂=>
     cases fl₂ with
     |ret r=>
      obtain⟨rfl,h',tk,rfl,fin,kp⟩:=hr₂
      repeat (any_goals first|assumption|wp_step)
      exact h _ _ fin kp
     |_=>exact hr₂.elim
  |_=>exact hr.elim
end
end SetT
namespace L2
open PySem PySem.Spec PyProof.Rows PySem.W
section
variable{M:Model}{A:Around}{E:Value->Shared->Prop}{s:Shared}{base:Heap}{env:Env}{outer:List Env}{L e:Addr}{oe:Obj}{vs:Array Value}{head:Value}{hadNext:Bool}
end
end L2
namespace L2
open PySem PySem.Spec PyProof.Rows
section
variable{P:Program}{w:World}{H H1 H':Hp}{h h1 h':Heap}{outer:List Env}{env:Env}{x L:Addr}{cls:Value}
end
section
variable{P:Program}{w:World}{K:PySem.W.Frag}{mg:Str->Option Value}{base:Heap}{N:List Str}{qual:Str}{scope:Scope}{f:Addr}{cd:Value}{A:Around}{outer:List Env}{s₀:Shared}{H₀:Hp}{E:XK}
end
def SetN(r:Addr)(n:Nat)(h:Heap):Prop:=∃o es ep t,h.get? r=some o/\o.ExactSet/\o.data=.set es ep t/\t.fits es.size=true/\es.size=n
section
variable{X:Cx}
theorem xw7{k:Key}{u:Value}(r:RelV (kV k) u):SetT.Hb u:=by
 cases k with
 |inl i=>obtain⟨t,rfl⟩:=r;exact SetT.Hb.int i t
 |inr x=>obtain⟨t,rfl⟩:=r;exact SetT.Hb.str x t
theorem xd0:∀{ks:List Key}{us:List Value},Vals (ks.map kV) us->∀v∈us,SetT.Hb v
 |[],_,.nil,v,hv=>by cases hv
 |k::ks,_,.cons r t,v,hv=>by
  rcases Zv.mp hv with rfl|hv
  ·exact xw7 r
  ·exact xd0 t v hv
theorem xh6{P:Program}{w:World}{H:Hp}{h:Heap}{b:Addr}{ks:List Key}(ok:HOk P w H h)(e:H b=some (.tup (ks.map kV))):SetT.TupK (qd5 P w) h ks b:=by
 obtain⟨_,its,r,o,ho,hc,n,hd⟩:=ok b _ e;exact⟨o,its.toArray,n,ho,hc,hd,by simpa using qu0 r,λv hv=>xd0 r v (by simpa using hv)⟩
theorem qY0(hc:X.calm=true){k:Nat}(hr:Room k X.A):qg4 X (.type "set") (λxs H Q=>∃(p:Addr)(bs:List Addr)(rows:List (List Key)),xs=[.ref p]/\H p=some (.tup (bs.map V.ref))/\bs.length=rows.length /\
  (∀(i:Nat) b ks,bs[i]?=some b->rows[i]?=some ks->H b=some (.tup (ks.map kV)))/\rows.Nodup/\rows.length<=1200/\∀r,H r=none->Q (.ref r) (upd H r (.ext (SetN r rows.length)))):=by
 intro j1 s σ H xs us Q I rv h;obtain⟨p,bs,rows,rfl,hp,j2,j6,hnd,hsz,q⟩:=h;obtain⟨u,rfl,ru⟩:=qi2 rv;cases ru;obtain⟨_,its,r2,isT⟩:=I.hok p _ hp;have jG:its.length=bs.length:=by have:=r2.length;simpa using this.symm
 have un:=hr.units;have item:∀(i:Nat)(v:Value),its[i]?=some v->∃b,bs[i]?=some b/\v=.ref b:=λi v hv=>by
  have hi:i<bs.length:=by rw[<- jG];exact (gS_ hv).1
  obtain⟨w',e1,e2⟩:=r2.get (i:=i) (x:=V.ref bs[i]) (by simp[hi]);rw[hv] at e1;cases e1;exact⟨bs[i],by simp[hi],e2⟩
 refine SetT.call_set_tuple (knd:=qd5 X.prog X.w) (items:=its.toArray) (val:=λi=>rows.getD i []) (I.ok.hd hc) (by lia) (show s.heap.IsTuple p its.toArray from isT) (λi v hv=>?_) (λi j vB hj z=>?_) (by rw[ZA,jG,j2];exact hsz) λh' tk fin kp=>?_
 ·obtain⟨b,hb,rfl⟩:=item i v (by simpa using hv);have hi:i<rows.length:=by rw[<- j2];exact (gS_ hb).1
  have e:rows.getD i []=rows[i]:=by simp[List.getD,hi]
  show ∃b',Value.ref b=.ref b'/\SetT.TupK _ s.heap (rows.getD i []) b';rw[e];exact⟨b,rfl,xh6 I.hok (j6 i b rows[i] hb (by simp[hi]))⟩
 ·rw[ZA,jG,j2] at hj;have z':rows.getD i []=rows.getD j []:=z;have hi:i<rows.length:=by lia
  have e1:rows.getD i []=rows[i]:=by simp[List.getD,hi]
  have e2:rows.getD j []=rows[j]:=by simp[List.getD,hj]
  rw[e1,e2] at z';have:=(List.getElem_inj hnd).mp z';lia
 ·obtain⟨Ks,S⟩:=fin;obtain⟨o,es,ep,t,ho,vD,hd,g,hf,_,hn,_⟩:=S.ex;have hn':es.size=rows.length:=by rw[hn,ZA,jG,j2]
  refine⟨.ref s.heap.objs.size,_,I.laid (a:=s.heap.objs.size) (o:=.ext (SetN s.heap.objs.size rows.length)) (t':=tk) (λb o e=>kp b o (Zr e) e) (Zf _) ⟨⟨o,es,ep,t,ho,vD,hd,g.fits,hn'⟩,⟨o,ho⟩,λh1 h2 φ k=>?_⟩,rfl,q _ (I.hok.fresh (Zf _))⟩;obtain⟨o',es',ep',t',ho',r⟩:=φ;exact⟨o',es',ep',t',k o' ho',r⟩
theorem qJ0:qg4 X (.builtin "len") (λxs H Q=>∃(r:Addr)(n:Nat),xs=[.ref r]/\H r=some (.ext (SetN r n))/\n<=1200/\Q (.int n) H):=by
 intro j1 s σ H xs us Q I rv h;obtain⟨r,n,rfl,hr,hn,q⟩:=h;obtain⟨u,rfl,ru⟩:=qi2 rv;cases ru;obtain⟨⟨o,es,ep,t,ho,vD,hd,hf,rfl⟩,_⟩:=I.hok r _ hr;have hb:(es.size:Int)<=1200:=by lia
 exact call_len_set ho vD hd hf (Int.lt_of_le_of_lt hb (by decide)) ⟨.int es.size,H,I.tok _,⟨_,rfl⟩,q⟩
end
mutual
inductive DataAt(H:Hp):V->PyData->Prop
 |non:DataAt H .non .none
 |bl (b:Bool):DataAt H (.bl b) (.bool b)
 |int (i:Int):DataAt H (.int i) (.int i)
 |str (x:Str):DataAt H (.str x) (.str x)
 |lst {a:Addr}{xs:List V}{ds:List PyData}(h:H a=some (.lst xs)) (r:DatasAt H xs ds):DataAt H (.ref a) (.list ds)
 |tup {a:Addr}{xs:List V}{ds:List PyData}(h:H a=some (.tup xs)) (r:DatasAt H xs ds):DataAt H (.ref a) (.tuple ds)
inductive DatasAt(H:Hp):List V->List PyData->Prop
 |nil:DatasAt H [] []
 |cons {x:V}{xs:List V}{d:PyData}{ds:List PyData}(h:DataAt H x d) (r:DatasAt H xs ds):DatasAt H (x::xs) (d::ds)
end
section
variable{P:Program}{w:World}{H:Hp}{h:Heap}
mutual
theorem DataAt.reads(ok:HOk P w H h):∀{x:V}{d:PyData}{u:Value},DataAt H x d->RelV x u->∃as,Reads h u d as
 |_,_,u,.non,r=>⟨[],by cases (show u=Value.none from r);exact .none⟩
 |_,_,u,.bl b,r=>⟨[],by cases (show u=Value.bool b from r);exact .bool b⟩
 |_,_,u,.int i,r=>⟨[],by obtain⟨t,rfl⟩:=r;exact .int i t⟩
 |_,_,u,.str x,r=>⟨[],by obtain⟨t,rfl⟩:=r;exact .str x t⟩
 |_,_,u,.lst (a:=a) e rs,r=>by
  cases (show u=Value.ref a from r);obtain⟨_,its,n,rv,ho⟩:=ok a _ e;obtain⟨as,ra⟩:=DatasAt.reads ok rs rv;exact⟨a::as,.list ho rfl rfl (by simpa using ra)⟩
 |_,_,u,.tup (a:=a) e rs,r=>by
  cases (show u=Value.ref a from r);obtain⟨_,its,rv,o,ho,hc,n,hd⟩:=ok a _ e;obtain⟨as,ra⟩:=DatasAt.reads ok rs rv;exact⟨as,.tuple ho hc hd (by simpa using ra)⟩
theorem DatasAt.reads(ok:HOk P w H h):∀{xs:List V}{ds:List PyData}{us:List Value},DatasAt H xs ds->Vals xs us->∃as,ReadsAll h us ds as
 |_,_,_,.nil,.nil=>⟨[],.nil⟩
 |_,_,_,.cons h1 r1,.cons r rr=>by
  obtain⟨as,ra⟩:=DataAt.reads ok h1 r;obtain⟨bs,rb⟩:=DatasAt.reads ok r1 rr;exact⟨as++bs,.cons ra rb⟩
end
mutual
theorem DataAt.same{H':Hp}(s:∀b o,H b=some o->H' b=some o):∀{x:V}{d:PyData},DataAt H x d->DataAt H' x d
 |_,_,.non=>.non
 |_,_,.bl b=>.bl b
 |_,_,.int i=>.int i
 |_,_,.str x=>.str x
 |_,_,.lst e r=>.lst (s _ _ e) (DatasAt.same s r)
 |_,_,.tup e r=>.tup (s _ _ e) (DatasAt.same s r)
theorem DatasAt.same{H':Hp}(s:∀b o,H b=some o->H' b=some o):∀{xs:List V}{ds:List PyData},DatasAt H xs ds->DatasAt H' xs ds
 |_,_,.nil=>.nil
 |_,_,.cons h r=>.cons (DataAt.same s h) (DatasAt.same s r)
end
theorem DatasAt.ints:∀(ns:List Int),DatasAt H (ns.map V.int) (ns.map PyData.int)
 |[]=>.nil
 |n::ns=>.cons (.int n) (DatasAt.ints ns)
end
section
variable{X:Cx}
theorem qY1{k:Nat}(hr:Room k X.A):OpR X (compareOp .Eq) (λx y H Q=>∃d e,DataAt H x d/\DataAt H y e/\d.canLay0=true/\e.canLay0=true/\d.depth<=60/\Q (.bl (PyData.eqv d e)) H):=by
 intro j1 s σ H x y v u Q I rx ry h;obtain⟨d,e,hd,he,c1,c2,dp,q⟩:=h;obtain⟨as,ra⟩:=hd.reads I.hok rx;obtain⟨bs,rb⟩:=he.reads I.hok ry;have un:=hr.units;exact SeqAt.rcAt_reads ra rb c1 c2 (by lia) X.prog X.w X.xe _ ⟨.bl _,H,I,rfl,q⟩
theorem xp5{k:Nat}(hr:Room k X.A):OpR X (compareOp .NotEq) (λx y H Q=>∃d e,DataAt H x d/\DataAt H y e/\d.canLay0=true/\e.canLay0=true/\d.depth<=60/\Q (.bl (!PyData.eqv d e)) H):=by
 intro j1 s σ H x y v u Q I rx ry h;obtain⟨d,e,hd,he,c1,c2,dp,q⟩:=h;obtain⟨as,ra⟩:=hd.reads I.hok rx;obtain⟨bs,rb⟩:=he.reads I.hok ry;have un:=hr.units;exact SeqAt.rcNeAt_reads ra rb c1 c2 (by lia) X.prog X.w X.xe _ ⟨.bl _,H,I,rfl,q⟩
end
theorem ql3:∀(a b:List Int),PyData.eqvAll (a.map PyData.int) (b.map PyData.int)=decide (a=b)
 |[],[]=>by simp[PyData.eqvAll]
 |x::a,[]=>by simp[PyData.eqvAll]
 |[],y::b=>by simp[PyData.eqvAll]
 |x::a,y::b=>by
  show (PyData.eqv (.int x) (.int y)&&PyData.eqvAll (a.map PyData.int) (b.map PyData.int))=_;rw[ql3 a b,show PyData.eqv (.int x) (.int y)=(x==y) by simp[PyData.eqv]];rw[ZO];simp
theorem ql4:∀(a:List Int),PyData.canLayAll0 (a.map PyData.int)=true
 |[]=>by simp[PyData.canLayAll0]
 |x::a=>by
  show (PyData.canLay0 (.int x)&&PyData.canLayAll0 (a.map PyData.int))=true;rw[ql4 a];simp[PyData.canLay0]
def dT(ns:List Int):PyData:=.tuple (ns.map PyData.int)
def dL(ns:List Int):PyData:=.list (ns.map PyData.int)
theorem qx9(ns:List Int):(dT ns).canLay0=true:=by
 exact ql4 ns
theorem qL8(ns:List Int):(dL ns).canLay0=true:=by
 exact ql4 ns
theorem xp6(a b:List Int):PyData.eqv (dT a) (dT b)=decide (a=b):=by
 exact ql3 a b
theorem qY2(a b:List Int):PyData.eqv (dL a) (dL b)=decide (a=b):=by
 exact ql3 a b
end L2
namespace EnumT
open PySem PySem.Spec
section
variable{prog:Program}{w:World}{A:Around}{E:Value->Shared->Prop}{s:Shared}
theorem qQ7{it t:Addr}{i:Nat}{items:Array Value}{x:Value}{Q:Value->Shared->Prop}(st:s.heap.IsTupleIter it t i)(ht:s.heap.IsTuple t items)(hx:items[i]?=some x)
  (q:∀h',h'.IsTupleIter it t (i+1)->Heap.SameBut it s.heap h'->Q x { s with heap:=h' }):wpAny (model prog w) A (Builtin.SmallTypes.nextOf (.ref it)) Q E s:=by
 obtain⟨o,e1,e2,e3⟩:=id st;obtain⟨ot,f1,_,nt,f2⟩:=ht;unfold Builtin.SmallTypes.nextOf;refine Za (ZV (name:=Str.ofString "__next__") st.typeIs YV (Z1 YV st.typeIs F.entry_tuple_iterator_next ?_ (F.args_tuple_iterator_next_1 _)));show wpAny _ _ (field (.ref it) 0 >>= _) _ _ s;refine Za (Ys e1 e3 (x:=.ref t) rfl ?_);show wpAny _ _ (if (Value.ref t==Value.none)=true then _ else _) _ _ s;rw[Zh (show ¬((Value.ref t==Value.none)=true) from Zs)];show wpAny _ _ (field (.ref it) 1 >>= _) _ _ s;refine Za (Ys e1 e3 (x:=.int i 0) rfl ?_);show wpAny _ _ (seqItems? (.ref t) >>= _) _ _ s;refine Za (WL f1 f2 ?_);simp only[YG,hx];refine Za (WM e1 e3 (by simp) (Zb ⟨x,rfl,Zb (q _ ⟨_,Xo _ e1 (Obj.isFreed_of_fields (X6 e3 _)),(Obj.cls_mapFields ..).trans e2,?_⟩ (YK ..))⟩));rw[X6 e3];simp[rawInt]
theorem qY3{it t:Addr}{i:Nat}{items:Array Value}{Q:Value->Shared->Prop}(hh:A.handled=none)(st:s.heap.IsTupleIter it t i)(ht:s.heap.IsTuple t items)(hx:items[i]?=none)
  (q:∀h' e,Heap.ExtBut it s.heap h'->(∃o,h'.get? e=some o/\o.cls=.type "StopIteration")->E (.ref e) { s with heap:=h' }):wpAny (model prog w) A (Builtin.SmallTypes.nextOf (.ref it)) Q E s:=by
 obtain⟨o,e1,e2,e3⟩:=id st;obtain⟨ot,f1,_,nt,f2⟩:=ht;unfold Builtin.SmallTypes.nextOf;refine Za (ZV (name:=Str.ofString "__next__") st.typeIs YV (Z1 YV st.typeIs F.entry_tuple_iterator_next ?_ (F.args_tuple_iterator_next_1 _)));show wpAny _ _ (field (.ref it) 0 >>= _) _ _ s;refine Za (Ys e1 e3 (x:=.ref t) rfl ?_);show wpAny _ _ (if (Value.ref t==Value.none)=true then _ else _) _ _ s;rw[Zh (show ¬((Value.ref t==Value.none)=true) from Zs)];show wpAny _ _ (field (.ref it) 1 >>= _) _ _ s;refine Za (Ys e1 e3 (x:=.int i 0) rfl ?_);show wpAny _ _ (seqItems? (.ref t) >>= _) _ _ s;refine Za (WL f1 f2 ?_);simp only[YG,hx];refine Za (WN (Za (WM e1 e3 (by simp) ?_)));show wpAny _ _ (newExc (.type "StopIteration") [] >>= _) _ _ _;refine Za ?_;simp only[newExc,newTuple];refine Za (ZY ?_ (by size_fits));refine Za (m:=firstArgMember _ _) (WZ (a:=Value.none) (by first|rfl|(simp only[firstArgMember];rfl)) ?_);refine ZY ?_ (by size_fits);simp only[raiseNew];refine Za (wpAny_handled ?_)
 first|rw[show A.in1.handled=none from hh]|rw[hh]
 refine Za (Zb (wpAny_throw ?_));exact q _ _ (((YK ..).extBut.push _).push _) ⟨_,Zj _ rfl,rfl⟩
theorem qY4{e it:Addr}{i:Nat}{x old:Value}{St:Heap->Prop}{Q:Value->Shared->Prop}(he:IsEnum s.heap e it i old)(jB:e≠it)
  (nx:∀Q':Value->Shared->Prop,(∀h',Heap.SameBut it s.heap h'->St h'->Q' x { s with heap:=h' })->wpAny (model prog w) A (Builtin.SmallTypes.nextOf (.ref it)) Q' E s)
  (q:∀h1 h',Heap.SameBut it s.heap h1->St h1->IsEnumOut h' e it ((i:Int)+1) x s.heap.objs.size->h'.get? s.heap.objs.size=some { cls:=.type "tuple",data:=.seq #[.int i s.toks,x] } ->
   (∀b o,b≠e->h1.get? b=some o->h'.get? b=some o)->Q (.ref s.heap.objs.size) { s with heap:=h',toks:=s.toks+1 }) :
  wpAny (model prog w) A (Builtin.«enumerate.__next__» ⟨[.ref e],[]⟩) (λfin s'=>∃v,fin=.done (.ret v)/\Q v s') E s:=by
 obtain⟨hp,g,d,tk,os⟩:=s;show wpAny _ _ (field (.ref e) 2 >>= _) _ _ _;refine Za (Ys he rfl (x:=.ref it) rfl ?_);refine Za (nx _ λh₁ s1 st1=>?_)
 replace s1:Heap.SameBut it hp h₁:=s1
 have he₁:IsEnum h₁ e it i old:=(s1.2 e jB).trans he;show wpAny _ _ (field (.ref e) 3 >>= _) _ _ ⟨h₁,g,d,tk,os⟩;refine Za (Ys he₁ rfl (x:=rawInt i) rfl ?_);show wpAny _ _ (field (.ref e) 4 >>= _) _ _ ⟨h₁,g,d,tk,os⟩;refine Za (Ys he₁ rfl (x:=.none) rfl ?_);show wpAny _ _ (mkInt i >>= _) _ _ ⟨h₁,g,d,tk,os⟩;refine Za (wpAny_mkInt ?_);show wpAny _ _ (setField (.ref e) 3 (rawInt ((i:Int)+1)) >>= _) _ _ ⟨h₁,g,d,tk+1,os⟩;refine Za (Xk he₁ (by simp) λh₂ he₂ s2=>?_)
 replace s2:Heap.SameBut e h₁ h₂:=s2
 replace he₂:IsEnum h₂ e it ((i:Int)+1) old:=he₂
 show wpAny _ _ (setField (.ref e) 4 .none >>= _) _ _ ⟨h₂,g,d,tk+1,os⟩;refine Za (Xk he₂ (by simp) λh₃ he₃ s3=>?_)
 replace s3:Heap.SameBut e h₂ h₃:=s3
 replace he₃:IsEnum h₃ e it ((i:Int)+1) old:=he₃
 show wpAny _ _ (newTuple [.int i tk,x] >>= _) _ _ ⟨h₃,g,d,tk+1,os⟩;refine Za (wpAny_newTuple ?_);have z3:h₃.objs.size=hp.objs.size:=by rw[s3.1,s2.1,s1.1]
 have elt:e<hp.objs.size:=Zr he;obtain⟨h₄,e4⟩:∃h₄,h₃.push { cls:=.type "tuple",data:=.seq #[.int i tk,x] }=h₄:=⟨_,rfl⟩;have he₄:IsEnum h₄ e it ((i:Int)+1) old:=by rw[<- e4];exact Zc _ he₃
 have ht₄:h₄.get? hp.objs.size=some { cls:=.type "tuple",data:=.seq #[.int i tk,x] }:=by rw[<- e4,<- z3];exact Zj _ rfl
 have k4:∀b o,b≠e->h₁.get? b=some o->h₄.get? b=some o:=λb o hb eb=>by
  rw[<- e4];exact Zc _ (s3.extBut b o hb (s2.extBut b o hb eb))
 rw[e4];show wpAny _ _ (Builtin.SmallTypes.ownedTupleIsFree (.ref e) >>= _) _ _ ⟨h₄,g,d,tk+1,os⟩;rw[z3];refine Za ?_;unfold Builtin.SmallTypes.ownedTupleIsFree;refine Za (Ys he₄ rfl (x:=.none) rfl (Zb ?_));simp only[Yt];refine Za (WN ?_);refine Za (Ys he₄ rfl (x:=old) rfl ?_);refine Za (Xk he₄ (by simp) λh₅ he₅ s5=>?_)
 replace s5:Heap.SameBut e h₄ h₅:=s5
 replace he₅:IsEnum h₅ e it ((i:Int)+1) x:=he₅
 show wpAny _ _ (Builtin.SmallTypes.ownedTupleHandOut (.ref e) (.ref hp.objs.size) >>= _) _ _ ⟨h₅,g,d,tk+1,os⟩;refine Za ?_;unfold Builtin.SmallTypes.ownedTupleHandOut;refine Za (Xk he₅ (by simp) λh₆ he₆ s6=>?_)
 replace s6:Heap.SameBut e h₅ h₆:=s6
 replace he₆:IsEnumOut h₆ e it ((i:Int)+1) x hp.objs.size:=he₆
 refine Xk he₆ (by simp) λh₇ he₇ s7=>?_
 replace s7:Heap.SameBut e h₆ h₇:=s7
 replace he₇:IsEnumOut h₇ e it ((i:Int)+1) x hp.objs.size:=he₇
 have k7:∀b o,b≠e->h₄.get? b=some o->h₇.get? b=some o:=λb o hb eb=>s7.extBut b o hb (s6.extBut b o hb (s5.extBut b o hb eb));exact Za (wpAny_letGo (Zb ⟨_,rfl,q h₁ h₇ s1 st1 he₇ (k7 _ _ (WE elt) ht₄) λb o hb eb=>k7 b o hb (k4 b o hb eb)⟩))
theorem next_pair{e it t:Addr}{i:Nat}{items:Array Value}{x old:Value}{Q:Option Value->Shared->Prop}(he:IsEnum s.heap e it i old)(jB:e≠it)(st:s.heap.IsTupleIter it t i)(ht:s.heap.IsTuple t items)(hx:items[i]?=some x)
  (q:∀h1 h',Heap.SameBut it s.heap h1->IsEnumOut h' e it ((i:Int)+1) x s.heap.objs.size->h'.IsTupleIter it t (i+1)->h'.get? s.heap.objs.size=some { cls:=.type "tuple",data:=.seq #[.int i s.toks,x] } ->
   (∀b o,b≠e->h1.get? b=some o->h'.get? b=some o)->Q (some (.ref s.heap.objs.size)) { s with heap:=h',toks:=s.toks+1 }):wpAny (model prog w) A (pyNext (.ref e)) Q E s:=by
 have hT:s.TypeIs (.ref e) "enumerate":=⟨_,he,rfl⟩;unfold pyNext;refine Za (Wu (ZV (name:=Str.ofString "__next__") hT Xp (Z1 Xp hT F.entry_enumerate_next
  (qY4 (St:=λh=>h.IsTupleIter it t (i+1)) he jB (λQ' q'=>qQ7 st ht hx λh' st' sb=>q' h' sb st') λh1 h' sb st1 ho hT' kp=>Zb (q h1 h' sb ho ?_ hT' kp)) (F.args_enumerate_next_1 _))))
 obtain⟨o,x1,x2⟩:=st1;exact⟨o,kp it o (Xc jB) x1,x2⟩
theorem next_end{e it t:Addr}{i:Nat}{items:Array Value}{old:Value}{Q:Option Value->Shared->Prop}(hh:A.handled=none)(he:IsEnum s.heap e it i old)(st:s.heap.IsTupleIter it t i)(ht:s.heap.IsTuple t items)(hx:items[i]?=none)
  (q:∀h',Heap.ExtBut it s.heap h'->Q none { s with heap:=h' }):wpAny (model prog w) A (pyNext (.ref e)) Q E s:=by
 have hT:s.TypeIs (.ref e) "enumerate":=⟨_,he,rfl⟩;unfold pyNext;refine Za (Wu (ZV (name:=Str.ofString "__next__") hT Xp (Z1 Xp hT F.entry_enumerate_next ?_ (F.args_enumerate_next_1 _))));show wpAny _ _ (field (.ref e) 2 >>= _) _ _ _;refine Za (Ys he rfl (x:=.ref it) rfl ?_);refine Za (qY3 hh st ht hx λh' x eb ⟨o,ho,hc⟩=>?_);exact Za (Ws (T:= "StopIteration") (b:=true) ⟨o,ho,hc⟩ isSubtype_stop (Zb (q _ eb)))
theorem qY5(l:Addr)(items:Array Value)(n:Nat)(dct:Option Addr)(sl:Array (Option Value)) :
  Meets (Builtin.«enumerate.__new__» ⟨[.type "enumerate",.ref l],[]⟩) (λ_ R s=>s.heap.get? l=some { cls:=.type "tuple",dict:=dct,data:=.seq items n,slots:=sl } /\
   R (.ok (.ret (.ref (s.heap.push { cls:=.type "tuple_iterator",data:=.fields #[.ref l,.int 0 0] }).objs.size)))
    { s with heap:=(s.heap.push { cls:=.type "tuple_iterator",data:=.fields #[.ref l,.int 0 0] }).push { cls:=.type "enumerate",data:=.fields #[.none,.bool false,.ref s.heap.objs.size,rawInt 0,.none,.none] } }):=
 .of_wp λprog w A R s h=>by
  obtain⟨hp,g,d,tk,os⟩:=s;obtain⟨hl,h⟩:=h;have f0:=sub_enumerate;have hL:Heap.IsTuple (Shared.heap ⟨hp,g,d,tk,os⟩) l items:=⟨_,hl,rfl,n,rfl⟩
  wp_walk using XQ hl
  refine wpAny_stack_any λst=>Zb ?_;split
  ·rename_i c _ _ _ _ _;cases (c==Value.type "enumerate")
   all_goals
    wp_walk using XQ hl,XZ hL
    exact⟨_,rfl,h⟩
  ·wp_walk using XQ hl,XZ hL
   exact⟨_,rfl,h⟩
theorem call_new{l:Addr}{items:Array Value}{Q:Value->Shared->Prop}(hL:s.heap.IsTuple l items)
  (q:∀h',IsEnum h' (s.heap.objs.size+1) s.heap.objs.size 0 .none->h'.IsTupleIter s.heap.objs.size l 0->(∀b o,s.heap.get? b=some o->h'.get? b=some o)->Q (.ref (s.heap.objs.size+1)) { s with heap:=h' }) :
  wpAny (model prog w) A (call (.type "enumerate") [.ref l]) Q E s:=by
 obtain⟨⟨c,dct,dt,sl⟩,hl,hc,n,hd⟩:=hL
 replace hc:c=.type "tuple":=hc
 replace hd:dt=.seq items n:=hd
 subst hc hd;refine callType_new F.called_enumerate (by decide) (F.typeCall_enumerate_1 _) (F.newCall_enumerate_1 _) (λobj=>F.args_object_init_2 obj _) F.entry_enumerate_new (qY5 l items n dct sl) ⟨hl,?_⟩;have z1:(s.heap.push { cls:=.type "tuple_iterator",data:=.fields #[.ref l,.int 0 0] }).objs.size=s.heap.objs.size+1:=YC ..;show _/\_;rw[z1];have he:=Zj (s.heap.push { cls:=.type "tuple_iterator",data:=.fields #[.ref l,.int 0 0] }) (o:={ cls:=.type "enumerate",data:=.fields #[.none,.bool false,.ref s.heap.objs.size,rawInt 0,.none,.none] }) rfl;rw[z1] at he;exact⟨⟨_,he,rfl⟩,q _ he ⟨_,Zc _ (Zj _ rfl),rfl,rfl⟩ λb o x=>Zc _ (Zc _ x)⟩
end
end EnumT
namespace L2
open PySem PySem.Spec PyProof.Rows
def Ite(K:PySem.W.Frag)(a:Addr):It:=
 ⟨λi H=>∃xs x,SqT K H a xs/\xs[i]?=some x,λi H y H'=>∃p x,H p=none/\(∀xs,SqT K H a xs->xs[i]?=some x)/\H'=upd H p (.tup [.int i,x])/\y=.ref p,λi H=>∃xs,SqT K H a xs/\xs.length<=i⟩
theorem qY6{h:Heap}{o o':Obj}{b:Addr}(e:(h.push o).get? b=some o')(j5:b<h.objs.size):h.get? b=some o':=by
 unfold Heap.get? Heap.push at *;simp only[Array.getElem?_push] at e;rw[Zh (ZB j5)] at e;exact e
theorem qQ8{P:Program}{w:World}{K:PySem.W.Frag}{elts:List Expr}{x1:Nat}{tpos:Pos}(a e it:Addr)(jB:e≠it) :
  Turn P w K (.Tuple elts x1 tpos) (Ite K a) [e,it] e (λi h=>(∃old,IsEnum h e it i old)/\h.IsTupleIter it a i) where
 mem:=by simp
 obj:=λi h st b hb=>by
  rcases Zv.mp hb with rfl|hb
  ·obtain⟨⟨old,z⟩,_⟩:=st;exact⟨_,z,λv q=>by
    have q':Data.fields _=Data.cell v:=q;cases q'⟩
  ·have:b=it:=by simpa using hb
   subst this;obtain⟨_,o,z,_,d⟩:=st;exact⟨o,z,λv q=>by rw[d] at q;cases q⟩
 keep:=λi h h' st k=>by
  obtain⟨⟨old,z⟩,st2⟩:=st;exact⟨⟨old,k e (by simp) _ z⟩,st2.at λo q=>k it (by simp) o q⟩
 item:=by
  intro X hP hw hK hc i j1 s σ H E I hf st hg;subst hP hw hK;obtain⟨⟨old,he⟩,st2⟩:=st;obtain⟨xs,x,hq,hx⟩:=hg;obtain⟨its,rv,p,hz⟩:=I.tuple hq;obtain⟨u,hu,ru⟩:=rv.get hx;obtain⟨e0,e1,e2,e3,e4,e5⟩:=hf e (by simp);obtain⟨f0,f1,f2,f3,f4,f5⟩:=hf it (by simp);refine EnumT.next_pair he jB st2 (show s.heap.IsTuple a its.toArray from p) (x:=u) (by simpa using hu) λh1 h' sb ho st3 ht kp=>?_;refine⟨_,rfl,wpAny_letOwnedTupleGo_enum ho λh2 k9 sb2=>?_⟩;have elt:e<s.heap.objs.size:=Zr he;have ilt:it<s.heap.objs.size:=by obtain⟨o,z,_⟩:=st2;exact Zr z
  have fresh:H s.heap.objs.size=none:=I.hok.fresh (Zf _);have z1:h1.objs.size=s.heap.objs.size:=sb.1;have J0:Inv X j1 σ (upd H s.heap.objs.size (.tup [.int i,x])) { s with heap:=s.heap.push { cls:=.type "tuple",data:=.seq #[.int i s.toks,u] },toks:=s.toks+1 }:=
   I.laid (λb o q=>Zc _ q) (Zf _) ⟨by show 2<=sizeLine;decide,[.int i s.toks,u],.cons ⟨_,rfl⟩ (.cons ru .nil),_,Zj _ rfl,rfl,⟨_,rfl⟩,rfl⟩
  have ne1:(upd H s.heap.objs.size (.tup [.int i,x])) it=none:=by rw[qa7 (ZB ilt)];exact f0
  have ne2:(upd H s.heap.objs.size (.tup [.int i,x])) e=none:=by rw[qa7 (ZB elt)];exact e0
  have J1:=J0.turned (it:=it) (h':=h1.push { cls:=.type "tuple",data:=.seq #[.int i s.toks,u] }) (t':=s.toks+1) (λb o hb q=>by
    have q:(s.heap.push { cls:=.type "tuple",data:=.seq #[.int i s.toks,u] }).get? b=some o:=q;by_cases j5:b<s.heap.objs.size
    ·have q':s.heap.get? b=some o:=qY6 q j5;exact Zc _ ((sb.2 b hb).trans q')
    ·have kE:b<s.heap.objs.size+1:=by have:=Zr q;rw[YC] at this;exact this
     have eb:b=s.heap.objs.size:=Nat.le_antisymm (Nat.le_of_lt_succ kE) (W7 j5);subst eb;rw[Zj _ rfl] at q;cases q;have:=Zj h1 (o:={ cls:=.type "tuple",data:=.seq #[.int i s.toks,u] }) rfl;rw[z1] at this;exact this) ne1 f1 f3 f4 f5
  have J2:=J1.turned (it:=e) (h':=h') (t':=s.toks+1) (λb o hb q=>by
    have q:(h1.push { cls:=.type "tuple",data:=.seq #[.int i s.toks,u] }).get? b=some o:=q;by_cases j5:b<s.heap.objs.size
    ·have q':h1.get? b=some o:=qY6 q (by rw[z1];exact j5);exact kp b o hb q'
    ·have kE:b<s.heap.objs.size+1:=by have:=Zr q;rw[YC,z1] at this;exact this
     have eb:b=s.heap.objs.size:=Nat.le_antisymm (Nat.le_of_lt_succ kE) (W7 j5);subst eb;have:=Zj h1 (o:={ cls:=.type "tuple",data:=.seq #[.int i s.toks,u] }) rfl;rw[z1] at this;rw[this] at q;cases q;exact ht) ne2 e1 e3 e4 e5
  have J3:=J2.turned (it:=e) (h':=h2) (t':=s.toks+1) (λb o hb q=>(sb2.2 b hb).trans q) ne2 e1 e3 e4 e5;refine⟨.ref s.heap.objs.size,_,J3,rfl,⟨_,x,fresh,λys hy=>by rw[I.tuple_inj hy hq];exact hx,rfl,rfl⟩,⟨⟨u,by
   have:(((i+1:Nat)):Int)=(i:Int)+1:=by lia
   rw[this];exact k9⟩,st3.at λo q=>(sb2.2 it (Xc jB)).trans q⟩,λb hb=>?_⟩
  rcases Zv.mp hb with rfl|hb
  ·exact ne2
  ·have:b=it:=by simpa using hb
   subst this;exact ne1
 done:=by
  intro X hP hw hK hc i j1 s σ H E I hf st hg;subst hP hw hK;obtain⟨⟨old,he⟩,st2⟩:=st;obtain⟨xs,hq,hx⟩:=hg;obtain⟨its,rv,p,hz⟩:=I.tuple hq;obtain⟨f0,f1,f2,f3,f4,f5⟩:=hf it (by simp);have hl:=rv.length;exact EnumT.next_end (I.ok.hd hc) he st2 (show s.heap.IsTuple a its.toArray from p) (by simp;lia) λh' eb=>⟨rfl,I.turned (t':=s.toks) (λb o hb e=>eb b o hb e) f0 f1 f3 f4 f5⟩
 self:=λ_ _ _ _ _ st h=>by
  obtain⟨⟨old,he⟩,_⟩:=st;exact wpAny_pyIter_enum he h
section
variable{X:Cx}{elts:List Expr}{x1:Nat}{tpos:Pos}
def xp7(K:PySem.W.Frag)(ta:TA):TI:=λσ H R=>ta σ H λvs H1=>∃a,vs=[.ref a]/\(∃xs,SqT K H1 a xs)/\R (Ite K a) H1
theorem qz9{e:Expr}{ta:TA}{p pos:Pos}(hg:Gl X "enumerate")(hm:X.mg "enumerate" = none)(ha:PA X [e] ta)(hs:starEach [e] X.env=[(false,eval e X.env)]:=by rfl):PI X (.Tuple elts x1 tpos) (.Call (.Name "enumerate" p) [e] [] pos) (xp7 X.K ta):=by
 intro j1 s σ H R I h;refine Call_ (qx5 I hg hm PyProof.Rows.boot_enumerate (YM (thn (ha pos j1 s σ H _ I h) λus s1 ⟨vs,H1,I1,r1,q1⟩=>?_) hs rfl));obtain⟨a,rfl,⟨xs,hq⟩,q⟩:=q1;obtain⟨u,rfl,ru⟩:=qi2 r1;cases ru;obtain⟨its,rv,pt,hz⟩:=I1.tuple hq;refine EnumT.call_new (show s1.heap.IsTuple a its.toArray from pt) λh' he st kp=>?_;refine wpAny_pyIter_enum he ?_;have J:Inv X j1 σ H1 { s1 with heap:=h' }:=I1.kept (t':=s1.toks) kp;refine⟨s1.heap.objs.size+1,[s1.heap.objs.size+1,s1.heap.objs.size],_,_,H1,rfl,J,qQ8 a _ _ (Nat.succ_ne_self _),⟨⟨.none,he⟩,st⟩,λb hb=>?_,q⟩;rcases Zv.mp hb with rfl|hb
 ·exact I1.fpOk (Vh _) (I1.hok.fresh (Vh _))
 ·have:b=s1.heap.objs.size:=by simpa using hb
  subst this;exact I1.fpOk (Zf _) (I1.hok.fresh (Zf _))
end
section
variable{X:Cx}
def qb2(X:Cx)(scope:Scope)(cl:List (Str×Addr))(C:Addr)(ns:List Str)(fp:List Addr)(s₀:Shared)(H₀:Hp):Cx:=
 { X with N:=ns++X.N,s₀:=s₀,H₀:=H₀,env:=compEnvC scope cl C X.env,outer:=X.stack,stack:=X.stack,ex:=fp,fn:=λ_=>false,pn:=[],xe:=λ_ _=>False }
def qm7(n:Nat)(wi:TI)(g:TG)(tt:TT)(te:TE):TE:=λσ H Q=>wi σ H λJ H1=>∀D,H1 D=none->∃W:Nat->Nat->List V->Hp->Prop,(∃m,W 0 m [] (upd H1 D (.lst []))) /\
 ∀i m xs H2,W i m xs H2->H2 D=some (.lst xs)/\xs.length<sizeLine/\((J.stop i H2/\Q (.ref D) H2)\/(J.go i H2/\∀y H3,J.yld i H2 y H3->∀os:St,os.length=n ->
  g y (os++σ) H3 λσ4 H4=>tt σ4 H4 λb H5=>if b=true then te σ4 H5 λv H6=>H6 D=some (.lst xs)/\∃m',m'<m/\W (i+1) m' (xs++[v]) (upd H6 D (.lst (xs++[v]))) else ∃m',m'<m/\W (i+1) m' xs H5))
theorem qY7{prog:Program}{w:World}{A:Around}{R:Result->Shared->Prop}{s:Shared}{elt target iter:Expr}{ifs:List Expr}{scope:Scope}{pos:Pos}{it acc:Value}{env:Env}(T:Sem Bool)
  (hT:compTurn (.ListComp elt [⟨target,iter,ifs,0⟩] scope pos) 0 it acc env=(standAt iter.pos >>= λ_=>pyNext it >>= λr=>match r with
   |none=>pure (.done .next)
   |some v=>letOwnedTupleGo target it v >>= λ_=>assign target env v >>= λ_=>T >>= λok=>(if ok=true then (eval elt env >>= λx=>call (.builtin "list.append") [acc,x] >>= λ_=>pure ()) else pure ()) >>= λ_=>
     again (.compLoop (.ListComp elt [⟨target,iter,ifs,0⟩] scope pos) 0 it acc env)))
  (I:Nat->Shared->Prop)
  (turn:∀n s,I n s->wpAny (model prog w) A (pyNext it) (λr s₁=>match r with
   |none=>R (.ok .next) s₁
   |some v=>wpAny (model prog w) A (letOwnedTupleGo target it v) (λ_ s₁'=>wpAny (model prog w) A (assign target env v) (λ_ s₂=>wpAny (model prog w) A T (λok s₃=>
     if ok=true then wpAny (model prog w) A (eval elt env) (λx s₄=>wpAny (model prog w) A (call (.builtin "list.append") [acc,x]) (λ_ s₅=>∃m,m<n/\I m s₅) (λ_ _=>False) s₄) (λ_ _=>False) s₃
     else ∃m,m<n/\I m s₃) (λ_ _=>False) s₂) (λ_ _=>False) s₁') (λ_ _=>False) s₁) (λ_ _=>False) s)
  (n:Nat) (h:I n s):codeAny (model prog w) A (.compLoop (.ListComp elt [⟨target,iter,ifs,0⟩] scope pos) 0 it acc env) R s:=by
 refine codeAny_loop rfl I (λn s hI=>?_) n h;show wpAny _ A ((compTurn (.ListComp elt [⟨target,iter,ifs,0⟩] scope pos) 0 it acc env).onRaise (λx=>do noteFrame x env;theTreesLotGoes x)) _ _ s;refine wpAny_noted ?_;rw[hT];refine Za (wpAny_standAt (Za (Yu (turn n s hI) (λr s₁ h₁=>?_) λ_ _ h'=>h'.elim)));cases r with
 |none=>exact Zb h₁
 |some v=>
  refine Za (Yu h₁ (λ_ s₁' h₁'=>?_) λ_ _ h'=>h'.elim);refine Za (Yu h₁' (λ_ s₂ h₂=>Za (Yu h₂ (λok s₃ h₃=>?_) λ_ _ h'=>h'.elim)) λ_ _ h'=>h'.elim);cases ok with
  |true=>
   rw[Zm rfl] at h₃;simp only[Yt];exact Za (Za (Yu h₃ (λx s₄ h₄=>Za (Yu h₄ (λ_ s₅ h₅=>Zb (Zb ⟨rfl,h₅⟩)) λ_ _ h'=>h'.elim)) λ_ _ h'=>h'.elim))
  |false=>
   rw[Zh Zs] at h₃;simp only[Zt,ZP];exact Za (Zb (Zb ⟨rfl,h₃⟩))
theorem qJ1(elt target iter:Expr)(scope:Scope)(pos:Pos)(it acc:Value)(env:Env):compTurn (.ListComp elt [⟨target,iter,[],0⟩] scope pos) 0 it acc env=(standAt iter.pos >>= λ_=>pyNext it >>= λr=>match r with
   |none=>pure (.done .next)
   |some v=>letOwnedTupleGo target it v >>= λ_=>assign target env v >>= λ_=>(pure true:Sem Bool) >>= λok=>(if ok=true then (eval elt env >>= λx=>call (.builtin "list.append") [acc,x] >>= λ_=>pure ()) else pure ()) >>= λ_=>
     again (.compLoop (.ListComp elt [⟨target,iter,[],0⟩] scope pos) 0 it acc env)):=by
 rw[compTurn_list1];congr 1
theorem qL9(elt target iter c:Expr)(scope:Scope)(pos:Pos)(it acc:Value)(env:Env):compTurn (.ListComp elt [⟨target,iter,[c],0⟩] scope pos) 0 it acc env=(standAt iter.pos >>= λ_=>pyNext it >>= λr=>match r with
   |none=>pure (.done .next)
   |some v=>letOwnedTupleGo target it v >>= λ_=>assign target env v >>= λ_=>isTrue c env (eval c env) >>= λok=>(if ok=true then (eval elt env >>= λx=>call (.builtin "list.append") [acc,x] >>= λ_=>pure ()) else pure ()) >>= λ_=>
     again (.compLoop (.ListComp elt [⟨target,iter,[c],0⟩] scope pos) 0 it acc env)):=by
 rw[compTurn_list];refine Va λ_=>Va λr=>?_;cases r with
 |none=>rfl
 |some v=>
  refine Va λ_=>Va λ_=>?_;simp only[Ve,List.forIn_nil,Yt,bind_assoc,pure_bind];refine Va λok=>?_;cases ok<;>simp
theorem qJ2{j1:List (Addr×Obj)}{σ:St}{H:Hp}{s:Shared}{h':Heap}{tk:Nat}{scope:Scope}{cl:List (Str×Addr)}{C:Addr}{nn:List Str}{fp:List Addr}{m:Str->Option Value}
  (I:Inv X j1 σ H s) (hC:C=s.heap.objs.size) (keep:∀b o,s.heap.get? b=some o->h'.get? b=some o) (ns:h'.Ns C m) (hfp:∀b∈fp,FpOk X j1 H b) (hfs:∀b∈fp,b<s.heap.objs.size)
  (j7:scope.kind=.function) (j3:∀y∈scope.names,y.2≠.cell) (jA:∀y∈X.N,scope.names.lookup y≠some .local)
  (jM:∀y c,cl.lookup y=some c->X.env.cells.lookup y=some c) (hcl2:∀p∈scope.names,p.2=.free->(cl.lookup p.1).isSome=true)
  (hfr:∀p∈scope.names,p.2=.free->Vis X.env.scope p.1/\X.env.scope.names.lookup p.1≠some .local) :
  Inv (qb2 X scope cl C nn fp s H) [] ((nn.map λ_=>none)++σ) H { s with heap:=h',toks:=tk }:=by
 have cells:∀y c,cl.lookup y=some c->∃v,s.heap.IsCell c v:=λy c e=>I.cell y c (jM y c e);have celllt:∀y c,cl.lookup y=some c->c<s.heap.objs.size:=λy c e=>by
  obtain⟨v,q⟩:=cells y c e;exact q.lt
 have cellk:∀c v,s.heap.IsCell c v->h'.IsCell c v:=λc v ⟨o,e,d⟩=>⟨o,keep c o e,d⟩;have stkl:∀b∈frs X.stack,∃o,s.heap.get? b=some o:=λb hb=>by
  rcases Zv.mp (I.stkSub b hb) with e|hb
  ·obtain⟨_,⟨o,_,_,ho,_⟩,_⟩:=I.loc;exact⟨o,by rw[e];exact ho⟩
  ·obtain⟨_,o,ho,_⟩:=I.funs.mem hb;exact⟨o,ho⟩
 refine⟨⟨I.ok.mod,j7,I.ok.glob,I.ok.blt,WF hC.symm,λy z c h1 h2=>I.ok.inj y z c (jM y c h1) (jM z c h2),λy hy=>?_,λy c h _=>Bool.noConfusion h,I.ok.hd,I.ok.frames,.inl rfl,λb hb=>⟨?_,λy c e z=>?_⟩,I.bs,
  ZH I.ok.bsz I.sz,λb o e hb=>?_,λb hb hf=>?_,I.stack,I.stkFree⟩,rfl,I.bare,Un.kept keep,⟨m,ns,λi y v h1 h2 h3=>?_⟩,λy c e=>?_,?_,λy c e=>?_,λp hp=>absurd hp (by simp[qb2]),I.hok.kept keep,?_⟩
 ·
  have hy:(relabel scope X.env).names.lookup y=some .cell\/(relabel scope X.env).names.lookup y=some .free:=hy;obtain⟨p,hp,e1,e2⟩:∃p∈scope.names,p.1=y/\p.2=.free:=by
   rcases hy with hy|hy
   ·exact qg0 hy j3 (.inl rfl)
   ·exact qg0 hy j3 (.inr rfl)
  obtain⟨c,e⟩:=Y5.mp (hcl2 p hp e2);exact⟨c,by rw[<- e1];exact e⟩
 ·show b≠C;rw[hC];exact ZB (hfs b hb)
 ·exact (hfp b hb).2.2.2.2.1 y c (jM y c e) z
 ·rcases (hfp b hb).2.2.2.1 with z|z
  ·exact I.ok.noex b o e z
  ·exact absurd (ZJ (Zr (I.ok.bs b o e).1) z) (Ym _)
 ·rcases Zv.mp (I.stkSub b hf) with z|z
  ·exact (hfp b hb).2.1 z
  ·exact (hfp b hb).2.2.1 z
 ·
  by_cases kK:i<nn.length
  ·rw[Zo (by simpa using kK)] at h2;simp at h2
  ·obtain⟨j,rfl⟩:∃j,i=nn.length+j:=⟨i-nn.length,by lia⟩;have h1:X.N[j]?=some y:=by
    have h1:(nn++X.N)[nn.length+j]?=some y:=h1;rw[Zk (Xh _ _),Nat.add_sub_cancel_left] at h1;exact h1
   have h2:σ[j]?=some (some v):=by
    rw[Zk (by simp)] at h2;simpa using h2
   have h3:(relabel scope X.env).names.lookup y=some .local\/(relabel scope X.env).names.lookup y=some .cell\/(relabel scope X.env).names.lookup y=some .free:=h3;rcases h3 with h3|h3
   ·exact absurd (qm4 h3) (jA y (Zy h1))
   ·obtain⟨p,hp,e1,e2⟩:∃p∈scope.names,p.1=y/\p.2=.free:=by
     rcases h3 with h3|h3
     ·exact qg0 h3 j3 (.inl rfl)
     ·exact qg0 h3 j3 (.inr rfl)
    obtain⟨hv,hnl⟩:=hfr p hp e2;rw[e1] at hv hnl;obtain⟨m0,_,hl0⟩:=I.loc;obtain⟨u,ru,lk⟩:=hl0 j y v h1 h2 hv;rcases lk with ⟨lk,_⟩|⟨_,c,hc,hcv⟩
    ·exact absurd lk hnl
    ·obtain⟨c',e'⟩:=Y5.mp (hcl2 p hp e2);rw[e1] at e';have:=jM y c' e';rw[hc] at this;cases this;refine⟨u,ru,.inr ⟨h3,c,e',cellk c _ hcv⟩⟩
 ·obtain⟨v,q⟩:=cells y c e;exact⟨v,cellk c v q⟩
 ·show H C=none;exact I.hok.fresh (WF hC.symm)
 ·exact I.freeC y c (jM y c e)
 ·show ((nn.map λ_=>none)++σ).length=(nn++X.N).length;simp[I.len]
theorem qY8{j1:List (Addr×Obj)}{σ σ':St}{H H':Hp}{s s':Shared}{h':Heap}{scope:Scope}{cl:List (Str×Addr)}{C:Addr}{nn:List Str}{fp:List Addr}
  (I:Inv X j1 σ H s) (hC:C=s.heap.objs.size) (hfp:∀b∈fp,FpOk X j1 H b) (J:Inv (qb2 X scope cl C nn fp s H) [] σ' H' s') (sb:Heap.SameBut C s'.heap h'):Inv X j1 σ H' { s' with heap:=h' }:=by
 have ne:∀b o,s.heap.get? b=some o->b≠C:=λb o e=>by rw[hC];exact ZB (Zr e)
 have B:Un (frs X.stack) fp H H' s.heap s'.heap:=J.base;have U:Un (frs X.stack) fp H H' s.heap h':=
  ⟨λb o e n hb hx=>(sb.2 b (ne b o e)).trans (B.keep b o e n hb hx),λb o e n hb hx=>by
   obtain⟨sl,q⟩:=B.slot b o e n hb hx;exact⟨sl,(sb.2 b (ne b o e)).trans q⟩,B.free,λb o e hx=>by
   obtain⟨o',q⟩:=B.there b o e hx;exact⟨o',(sb.2 b (ne b o e)).trans q⟩,B.tups,B.frzs,B.tbls⟩
 have hf:H' C=none:=J.free;have K:HOk X.prog X.w H' h':=λb o e=>(J.hok b o e).stay (λc u hc q=>(sb.2 c (by
  rintro rfl;rcases hc with z|z
  ·rw[z,e] at hf;cases hf
  ·rw[hf] at z;cases z)).trans q) (λ_ q=>q) λ_ _ q=>q
 refine I.call' (s':={ s' with heap:=h' }) (ch:=fp) J.os U K J.bare λb hb=>?_;obtain⟨_,h2,_,h4,h5,h6⟩:=hfp b hb;exact⟨h4,h2,h5,h6⟩
theorem qy0{use:Option (Value->Sem Unit)}{QQ:Value->Shared->Prop}{Q:VK}{j1:List (Addr×Obj)}{s:Shared}{σ:St}{H:Hp}{nn:List Str}{tg:Expr}{ifs:List Expr}{pos:Pos}{elt iter:Expr}{scope:Scope}{wi:TI}{g:TG}{tt:TT}{te:TE}(T:Env->Sem Bool)(hc:X.calm=true)(hi:PI X tg iter wi)
  (hturn:∀it acc env,compTurn (.ListComp elt [⟨tg,iter,ifs,0⟩] scope pos) 0 it acc env=(standAt iter.pos >>= λ_=>pyNext it >>= λr=>match r with
   |none=>pure (.done .next)
   |some v=>letOwnedTupleGo tg it v >>= λ_=>assign tg env v >>= λ_=>T env >>= λok=>(if ok=true then (eval elt env >>= λx=>call (.builtin "list.append") [acc,x] >>= λ_=>pure ()) else pure ()) >>= λ_=>
     again (.compLoop (.ListComp elt [⟨tg,iter,ifs,0⟩] scope pos) 0 it acc env)))
  (hgt:∀cl C fp s₀ H₀,PG (qb2 X scope cl C nn fp s₀ H₀) tg g)
  (hloc2:∀y (os σ:St) H R,os.length=nn.length->g y (os++σ) H R->g y (os++σ) H λσ' H'=>(∃os':St,os'.length=nn.length/\σ'=os'++σ)/\R σ' H')
  (htt:∀cl C fp s₀ H₀ (j1:List (Addr×Obj)) (s:Shared) (σ:St) (H:Hp) (Q:Bool->Hp->Prop),Inv (qb2 X scope cl C nn fp s₀ H₀) j1 σ H s->tt σ H Q->wpAny (model X.prog X.w) X.A (T (compEnvC scope cl C X.env)) (TP (qb2 X scope cl C nn fp s₀ H₀) j1 σ Q) (λ_ _=>False) s)
  (he:∀cl C fp s₀ H₀,PE (qb2 X scope cl C nn fp s₀ H₀) elt te)
  (j7:scope.kind=.function) (j3:∀y∈scope.names,y.2≠.cell) (j4:∀y∈scope.names,y.2=.local->scope.names.lookup y.1=some .local)
  (jA:∀y∈X.N,scope.names.lookup y≠some .local) (hfr:∀p∈scope.names,p.2=.free->Vis X.env.scope p.1/\X.env.scope.names.lookup p.1≠some .local)
  (hs:∀x,foldedSetIterable iter X.env x=pure x) (I:Inv X j1 σ H s) (h:qm7 nn.length wi g tt te σ H Q)
  (fin:∀(D C:Addr)(H3:Hp)(s4:Shared)(m4:Str->Option Value),FpOk X j1 H3 C->s4.heap.Ns C m4->(∀h',Heap.SameBut C s4.heap h'->Inv X j1 σ H3 { s4 with heap:=h' })->Q (.ref D) H3->compPost (model X.prog X.w) X.A X.xe use QQ (.ref D) C (.ok Flow.next) s4) :
  wpAny (model X.prog X.w) X.A (comprehension (.ListComp elt [⟨tg,iter,ifs,0⟩] scope pos) scope X.env (firstIterPos [⟨tg,iter,ifs,0⟩] pos) (newList []) false (eval iter X.env) use) QQ X.xe s:=by
 obtain⟨cl,hclos,jM,hcl2⟩:=qt9 (scope:=scope) (env:=X.env) (λp hp hk=>by
  obtain⟨hv,hn⟩:=hfr p hp hk;refine I.ok.has p.1 ?_;rcases hv with z|z
  ·exact absurd z hn
  ·exact z)
 refine wpAny_comprehension_free (use:=use) rfl hs hclos j7 j4 (thn (hi j1 s σ H _ I h) λv s1 h1=>thn h1 λitv s2 h2=>?_);obtain⟨it,fp,tn,J,H2,rfl,I2,T',st2,f2,q⟩:=h2;have hD:H2 s2.heap.objs.size=none:=I2.hok.fresh (Zf _);obtain⟨W,⟨m0,w0⟩,turn⟩:=q _ hD;refine ZY (wpAny_newFunctionEnv j3 (by intro y hy;simp at hy) (λh₁ hns₁ hsb₁=>?_) j7);dsimp only at hns₁ hsb₁ ⊢;have I3:Inv X j1 σ (upd H2 s2.heap.objs.size (.lst [])) { s2 with heap:=s2.heap.push { cls:=.type "list",dict:=none,data:=.seq ([]:List Value).toArray } }:=
  I2.laid (t':=s2.toks) (λb u e=>Zc _ e) (Zf _) ⟨Zx _,[],0,.nil,Zj _ rfl⟩
 have fpn:∀b∈fp,b≠s2.heap.objs.size:=λb hb=>by
  obtain⟨o,e,_⟩:=T'.obj 0 s2.heap st2 b hb;exact ZB (Zr e)
 have fplt:∀b∈fp,b<(s2.heap.push { cls:=.type "list",dict:=none,data:=.seq ([]:List Value).toArray }).objs.size:=λb hb=>by
  obtain⟨o,e,_⟩:=T'.obj 0 s2.heap st2 b hb;rw[YC];exact Y2 (Zr e)
 have f3:∀b∈fp,FpOk X j1 (upd H2 s2.heap.objs.size (.lst [])) b:=λb hb=>⟨by rw[qa7 (fpn b hb)];exact (f2 b hb).1,(f2 b hb).2⟩;generalize hg2:s2.heap.push { cls:=.type "list",dict:=none,data:=.seq ([]:List Value).toArray }=g2 at hns₁ hsb₁ I3 fplt ⊢;have keep:∀b o,g2.get? b=some o->h₁.get? b=some o:=λb o e=>(hsb₁.2 b (ZB (Zr e))).trans (Zc _ e);have J0:=qJ2 (nn:=nn) (tk:=s2.toks+([]:List (Str×Value)).length) I3 (C:=g2.objs.size) rfl keep hns₁ f3 fplt j7 j3 jA jM hcl2 hfr;generalize hY:qb2 X scope cl g2.objs.size nn fp { s2 with heap:=g2 } (upd H2 s2.heap.objs.size (.lst []))=Y at J0;have eY:PE Y elt te:=by rw[<- hY];exact he _ _ _ _ _
 have eG:PG Y tg g:=by rw[<- hY];exact hgt _ _ _ _ _
 have eT:∀(j1:List (Addr×Obj))(s:Shared)(σ:St)(H:Hp)(Q:Bool->Hp->Prop),Inv Y j1 σ H s->tt σ H Q->wpAny (model Y.prog Y.w) Y.A (T Y.env) (TP Y j1 σ Q) Y.xe s:=by rw[<- hY];exact htt _ _ _ _ _
 have eP:Y.prog=X.prog:=by rw[<- hY];rfl
 have eW:Y.w=X.w:=by rw[<- hY];rfl
 have eK:Y.K=X.K:=by rw[<- hY];rfl
 have eA:Y.A=X.A:=by rw[<- hY];rfl
 have eC:Y.calm=true:=by rw[<- hY];exact hc
 have eE:Y.env=compEnvC scope cl g2.objs.size X.env:=by rw[<- hY];rfl
 have eX:Y.xe=λ_ _=>False:=by rw[<- hY];rfl
 have eN:Y.N=nn++X.N:=by rw[<- hY];rfl
 have eEx:Y.ex=fp:=by rw[<- hY];rfl
 have eFs:Y.fs=frs X.stack:=by rw[<- hY];rfl
 have ePn:Y.pn=[]:=by rw[<- hY];rfl
 have fpY:∀{H':Hp},(∀b∈fp,H' b=none)->∀b∈fp,FpOk Y [] H' b:=λhn b hb=>by
  have g:=f3 b hb;refine⟨hn b hb,?_,?_,.inl (by rw[eEx];exact hb),?_,λp hp=>absurd hp (by rw[ePn];simp)⟩
  ·rw[eE];exact ZB (fplt b hb)
  ·rw[eFs];intro z;rcases Zv.mp (I3.stkSub b z) with z|z
   ·exact g.2.1 z
   ·exact g.2.2.1 z
  ·rw[eE];exact λy c e=>g.2.2.2.2.1 y c (jM y c e)
 have loop:∀s₃:Shared,s₃={ s2 with heap:=h₁,toks:=s2.toks+([]:List (Str×Value)).length } ->
   codeAny (model X.prog X.w) X.A (.compLoop (.ListComp elt [⟨tg,iter,ifs,0⟩] scope pos) 0 (.ref it) (.ref s2.heap.objs.size) (compEnvC scope cl g2.objs.size X.env))
    (compPost (model X.prog X.w) X.A X.xe use QQ (.ref s2.heap.objs.size) g2.objs.size) s₃:=by
  rintro s₃ rfl;refine qY7 (T (compEnvC scope cl g2.objs.size X.env)) (hturn _ _ _) (λn s'=>∃i xs H' os,os.length=nn.length/\Inv Y [] (os++σ) H' s'/\tn i s'.heap/\(∀b∈fp,H' b=none)/\W i n xs H') ?_ m0
   ⟨0,[],_,nn.map λ_=>none,by simp,J0,T'.keep 0 _ _ st2 (λb hb o e=>keep b o (by rw[<- hg2];exact Zc _ e)),λb hb=>(f3 b hb).1,w0⟩
  rintro n s3 ⟨i,xs,H3,os,kJ,I4,st3,fr3,w3⟩;obtain⟨hDx,hlx,alt⟩:=turn i n xs H3 w3;rcases alt with ⟨stop,qn⟩|⟨go,step⟩
  ·have D1:=T'.done Y eP eW eK eC i [] s3 _ H3 (λ_ _=>False) I4 (fpY fr3) st3 stop;rw[eA] at D1;refine thn D1 λr s4 ⟨hr,I5⟩=>?_;subst hr;obtain⟨m4,jU,_⟩:=id I5.loc;rw[eE] at jU;have hC0:H3 g2.objs.size=none:=by
    have:=I5.free;rw[eE] at this;exact this
   rw[<- hY] at I5;exact fin _ _ H3 s4 m4 (I3.fpOk (Zf _) hC0) jU (λh' sb=>qY8 I3 rfl f3 I5 sb) qn
  ·have G1:=T'.item Y eP eW eK eC i [] s3 _ H3 (λ_ _=>False) I4 (fpY fr3) st3 go;rw[eA] at G1;refine thn G1 λr s4 ⟨u,hr,h4⟩=>?_;subst hr;refine thn h4 λ_ s5 ⟨y,H5,I5,r5,y5,st5,fr5⟩=>?_;have I5':=I5.pinned (fpY fr5) (T'.obj _ _ st5);have S1:=eG _ s5 _ H5 y u _ I5' r5 (hloc2 y os σ H5 _ kJ (step y _ y5 os kJ));rw[eP,eW,eA,eE,eX] at S1;refine thn S1 λ_ s6 ⟨σ6,H6,I6,⟨os6,hos6,e6⟩,q6⟩=>?_;subst e6;have S2:=eT _ s6 _ _ _ I6 q6;rw[eP,eW,eA,eE,eX] at S2;refine thn S2 λok s7 ⟨H7,I7,q7⟩=>?_;have back:∀{s9:Shared}{H9:Hp}{m':Nat}{zs:List V},Inv Y ([]++qC6 fp s5.heap) (os6++σ) H9 s9->m'<n->W (i+1) m' zs H9->∃m,m<n/\∃i xs H' os,os.length=nn.length/\Inv Y [] (os++σ) H' s9/\tn i s9.heap/\(∀b∈fp,H' b=none)/\W i m xs H':=λ{s9 H9 m' zs} I9 hm' w9=>by
    have pin:∀b∈fp,∀ob,s5.heap.get? b=some ob->s9.heap.get? b=some ob/\H9 b=none:=λb hb ob e=>by
     have z:=I9.pin (b,ob) (ZN _ (ZN _ (qj8 hb e)));exact⟨z.1,z.2.1⟩
    refine⟨m',hm',i+1,zs,H9,os6,hos6,I9.unpinned,T'.keep _ _ _ st5 (λb hb ob e=>(pin b hb ob e).1),λb hb=>?_,w9⟩;obtain⟨ob,e,_⟩:=T'.obj _ _ st5 b hb;exact (pin b hb ob e).2
   cases ok with
   |true=>
    rw[Zm rfl] at q7;rw[Zm rfl];have S3:=eY _ s7 _ _ _ I7 q7;rw[eP,eW,eA,eE,eX] at S3;refine thn S3 λxv s8 ⟨v8,H8,I8,r8,hD8,m',hm',w8⟩=>?_;have S4:=qm2 (X:=Y) _ s8 _ H8 (.ref s2.heap.objs.size) [v8] (.ref s2.heap.objs.size) [xv] (λ_ H9=>H9=upd H8 s2.heap.objs.size (.lst (xs++[v8]))) I8 rfl (.cons r8 .nil) ⟨_,xs,v8,rfl,rfl,hD8,hlx,rfl⟩;rw[eP,eW,eA,eX] at S4;refine thn S4 λ_ s9 ⟨v9,H9,I9,_,e9⟩=>?_;subst e9;exact back I9 hm' w8
   |false=>
    rw[Zh Zs] at q7;rw[Zh Zs];obtain⟨m',hm',w8⟩:=q7;exact back I7 hm' w8
 exact codeAny_compStart_list (loop _ rfl) (T'.self _ 0 _ _ _ (T'.keep 0 _ _ st2 (λb hb o e=>keep b o (by rw[<- hg2];exact Zc _ e))) (loop _ rfl))
theorem qA0{nn:List Str}{tg:Expr}{ifs:List Expr}{pos:Pos}{elt iter:Expr}{scope:Scope}{wi:TI}{g:TG}{tt:TT}{te:TE}(T:Env->Sem Bool)(hc:X.calm=true)(hi:PI X tg iter wi)
  (hturn:∀it acc env,compTurn (.ListComp elt [⟨tg,iter,ifs,0⟩] scope pos) 0 it acc env=(standAt iter.pos >>= λ_=>pyNext it >>= λr=>match r with
   |none=>pure (.done .next)
   |some v=>letOwnedTupleGo tg it v >>= λ_=>assign tg env v >>= λ_=>T env >>= λok=>(if ok=true then (eval elt env >>= λx=>call (.builtin "list.append") [acc,x] >>= λ_=>pure ()) else pure ()) >>= λ_=>
     again (.compLoop (.ListComp elt [⟨tg,iter,ifs,0⟩] scope pos) 0 it acc env)))
  (hgt:∀cl C fp s₀ H₀,PG (qb2 X scope cl C nn fp s₀ H₀) tg g)
  (hloc2:∀y (os σ:St) H R,os.length=nn.length->g y (os++σ) H R->g y (os++σ) H λσ' H'=>(∃os':St,os'.length=nn.length/\σ'=os'++σ)/\R σ' H')
  (htt:∀cl C fp s₀ H₀ (j1:List (Addr×Obj)) (s:Shared) (σ:St) (H:Hp) (Q:Bool->Hp->Prop),Inv (qb2 X scope cl C nn fp s₀ H₀) j1 σ H s->tt σ H Q->wpAny (model X.prog X.w) X.A (T (compEnvC scope cl C X.env)) (TP (qb2 X scope cl C nn fp s₀ H₀) j1 σ Q) (λ_ _=>False) s)
  (he:∀cl C fp s₀ H₀,PE (qb2 X scope cl C nn fp s₀ H₀) elt te)
  (j7:scope.kind=.function) (j3:∀y∈scope.names,y.2≠.cell) (j4:∀y∈scope.names,y.2=.local->scope.names.lookup y.1=some .local)
  (jA:∀y∈X.N,scope.names.lookup y≠some .local) (hfr:∀p∈scope.names,p.2=.free->Vis X.env.scope p.1/\X.env.scope.names.lookup p.1≠some .local)
  (hs:∀x,foldedSetIterable iter X.env x=pure x):PE X (.ListComp elt [⟨tg,iter,ifs,0⟩] scope pos) (qm7 nn.length wi g tt te):=by
 intro j1 s σ H Q I h;rw[eval_ListComp];exact qy0 (use:=none) T hc hi hturn hgt hloc2 htt he j7 j3 j4 jA hfr hs I h λD C H3 s4 m4 _ jU iv q=>⟨m4,jU,λh' sb=>⟨.ref _,H3,iv h' sb,rfl,q⟩⟩
theorem qi7{scope sc:Scope}{N:List Str}(kG:X.N=N)(kA:X.env.scope=sc)
  (j3:scope.names.all (λy=>y.2 != .cell)=true) (j4:scope.names.all (λy=>y.2 != .local||scope.names.lookup y.1==some .local)=true) (jA:N.all (λy=>scope.names.lookup y != some .local)=true)
  (hfr:scope.names.all (λp=>p.2 != .free||(sc.names.lookup p.1==some .cell||sc.names.lookup p.1==some .free))=true) :
  (∀y∈scope.names,y.2≠.cell)/\(∀y∈scope.names,y.2=.local->scope.names.lookup y.1=some .local)/\(∀y∈X.N,scope.names.lookup y≠some .local)/\(∀p∈scope.names,p.2=.free->Vis X.env.scope p.1/\X.env.scope.names.lookup p.1≠some .local):=by
 refine⟨λy hy=>?_,λy hy hl=>?_,λy hy=>?_,λp hp hk=>?_⟩
 ·have:=YR.mp j3 y hy;simpa using this
 ·have:=YR.mp j4 y hy;simpa [hl] using this
 ·have:=YR.mp jA y (by rw[<- kG];exact hy);simpa using this
 ·have:=YR.mp hfr p hp;rw[hk] at this;have z:sc.names.lookup p.1=some .cell\/sc.names.lookup p.1=some .free:=by simpa using this
  rw[kA];refine⟨.inr z,λq=>?_⟩;rcases z with z|z<;>(rw[z] at q;cases q)
theorem loc1{y:V}{os σ:St}{H:Hp}{R:St->Hp->Prop}(ho:os.length=1)(h:qf2 0 y (os++σ) H R):qf2 0 y (os++σ) H λσ' H'=>(∃os':St,os'.length=1/\σ'=os'++σ)/\R σ' H':=by
 match os,ho with
 |[o],_=>exact⟨⟨[some y],rfl,rfl⟩,h⟩
theorem loc2{K:PySem.W.Frag}{y:V}{os σ:St}{H:Hp}{R:St->Hp->Prop}(ho:os.length=2)(h:gTup K 2 (qy9 (qf2 0) (qy9 (qf2 1) gNil)) y (os++σ) H R) :
  gTup K 2 (qy9 (qf2 0) (qy9 (qf2 1) gNil)) y (os++σ) H λσ' H'=>(∃os':St,os'.length=2/\σ'=os'++σ)/\R σ' H':=by
 obtain⟨o1,o2,rfl⟩:=L2.os2 ho
 ·
  obtain⟨a,xs,e1,e2,e3,v,r,e4,v2,r2,e5,e6,q⟩:=h;exact⟨a,xs,e1,e2,e3,v,r,e4,v2,r2,e5,e6,⟨[some v,some v2],rfl,rfl⟩,q⟩
theorem qY9{x:Str}{px pos:Pos}{elt iter c:Expr}{scope:Scope}{wi:TI}{tt:TT}{te:TE}(N:List Str)(sc:Scope)(kG:X.N=N)(kA:X.env.scope=sc)(hc:X.calm=true)(hN:X.N.Nodup)(hi:PI X (.Name x px) iter wi)
  (ht:∀cl C fp s₀ H₀,PT (qb2 X scope cl C [x] fp s₀ H₀) c tt) (he:∀cl C fp s₀ H₀,PE (qb2 X scope cl C [x] fp s₀ H₀) elt te)
  (j7:scope.kind=.function:=by rfl) (j3:scope.names.all (λy=>y.2 != .cell)=true:=by decide +kernel) (j4:scope.names.all (λy=>y.2 != .local||scope.names.lookup y.1==some .local)=true:=by decide +kernel)
  (hx:scope.names.lookup x=some .local:=by rfl) (jA:N.all (λy=>scope.names.lookup y != some .local)=true:=by decide +kernel)
  (hfr:scope.names.all (λp=>p.2 != .free||(sc.names.lookup p.1==some .cell||sc.names.lookup p.1==some .free))=true:=by decide +kernel)
  (hs:∀x,foldedSetIterable iter X.env x=pure x:=by intro _;rfl):PE X (.ListComp elt [⟨.Name x px,iter,[c],0⟩] scope pos) (qm7 1 wi (qf2 0) tt te):=by
 obtain⟨s1,s2,s3,s4⟩:=qi7 kG kA j3 j4 jA hfr;refine qA0 (nn:=[x]) (λenv=>isTrue c env (eval c env)) hc hi (λit acc env=>qL9 elt _ iter c scope pos it acc env) (λcl C fp s₀ H₀=>?_) (λy os σ H R ho h=>loc1 ho h) (λcl C fp s₀ H₀ j1 s σ H Q I h=>ht cl C fp s₀ H₀ j1 s σ H Q I h) he j7 s1 s2 s3 s4 hs;have l:(qb2 X scope cl C [x] fp s₀ H₀).env.scope.names.lookup x=some .local:=YD hx;exact ql1 (i:=0) (Z9.mpr ⟨λz=>s3 x z hx,hN⟩) rfl (.inl l) (.inr l)
theorem xw8{x y:Str}{p1 p2 tpos:Pos}{k:Nat}{scope:Scope}{cl:List (Str×Addr)}{C:Addr}{fp:List Addr}{s₀:Shared}{H₀:Hp}(hc:X.calm=true)(hN:X.N.Nodup)(jL:x≠y)(s3:∀z∈X.N,scope.names.lookup z≠some .local)(hx:scope.names.lookup x=some .local)(hy:scope.names.lookup y=some .local) :
  PG (qb2 X scope cl C [x,y] fp s₀ H₀) (.Tuple [.Name x p1,.Name y p2] k tpos) (gTup X.K 2 (qy9 (qf2 0) (qy9 (qf2 1) gNil))):=by
 have lx:(qb2 X scope cl C [x,y] fp s₀ H₀).env.scope.names.lookup x=some .local:=YD hx;have ly:(qb2 X scope cl C [x,y] fp s₀ H₀).env.scope.names.lookup y=some .local:=YD hy;have nd:(qb2 X scope cl C [x,y] fp s₀ H₀).N.Nodup:=Z9.mpr ⟨λz=>by
  rcases Zv.mp z with z|z
  ·exact jL z
  ·exact s3 x z hx,Z9.mpr ⟨λz=>s3 y z hy,hN⟩⟩
 exact qm0 (X:=qb2 X scope cl C [x,y] fp s₀ H₀) hc (qb9 (ql1 (i:=0) nd rfl (.inl lx) (.inr lx)) (qb9 (ql1 (i:=1) nd rfl (.inl ly) (.inr ly)) qh3))
def qQ9:TT:=λ_ H Q=>Q true H
theorem qs0{x y:Str}{p1 p2 tpos pos:Pos}{k:Nat}{elt iter:Expr}{scope:Scope}{wi:TI}{te:TE}(N:List Str)(sc:Scope)(kG:X.N=N)(kA:X.env.scope=sc)(hc:X.calm=true)(hN:X.N.Nodup)(hi:PI X (.Tuple [.Name x p1,.Name y p2] k tpos) iter wi)
  (he:∀cl C fp s₀ H₀,PE (qb2 X scope cl C [x,y] fp s₀ H₀) elt te) (jL:x≠y:=by decide)
  (j7:scope.kind=.function:=by rfl) (j3:scope.names.all (λy=>y.2 != .cell)=true:=by decide +kernel) (j4:scope.names.all (λy=>y.2 != .local||scope.names.lookup y.1==some .local)=true:=by decide +kernel)
  (hx:scope.names.lookup x=some .local:=by rfl) (hy:scope.names.lookup y=some .local:=by rfl) (jA:N.all (λy=>scope.names.lookup y != some .local)=true:=by decide +kernel)
  (hfr:scope.names.all (λp=>p.2 != .free||(sc.names.lookup p.1==some .cell||sc.names.lookup p.1==some .free))=true:=by decide +kernel)
  (hs:∀x,foldedSetIterable iter X.env x=pure x:=by intro _;rfl):PE X (.ListComp elt [⟨.Tuple [.Name x p1,.Name y p2] k tpos,iter,[],0⟩] scope pos) (qm7 2 wi (gTup X.K 2 (qy9 (qf2 0) (qy9 (qf2 1) gNil))) qQ9 te):=by
 obtain⟨s1,s2,s3,s4⟩:=qi7 kG kA j3 j4 jA hfr;exact qA0 (nn:=[x,y]) (λ_=>pure true) hc hi (λit acc env=>qJ1 elt _ iter scope pos it acc env) (λcl C fp s₀ H₀=>xw8 hc hN jL s3 hx hy) (λy os σ H R ho h=>loc2 ho h) (λcl C fp s₀ H₀ j1 s σ H Q I h=>Zb ⟨H,I,h⟩) he j7 s1 s2 s3 s4 hs
end
end L2
namespace L2
open PySem PySem.Spec PyProof.Rows PySem.W PySem.Builtin PySem.Builtin.ObjectAttr PySem.Builtin.Getset_descriptor
section
variable{prog:Program}{w:World}{A:Around}{E:Value->Shared->Prop}{s:Shared}{K:Frag}{x C:Addr}
def ExcAt(x C:Addr)(h:Heap):Prop:=∃ox vs,h.get? x=some ox/\ox.cls=.ref C/\ox.data=.fields vs/\vs[2]?=some .none
theorem ExcAt.type{M:Model}{h:Heap}(I:ExcAt x C h):Looks M h (typeOf (.ref x)) (.ref C):=by
 obtain⟨ox,_,h1,h2,_⟩:=I;have z:=(Looks.ld (M:=M) (part:=none) h1).andThen (f:=λo=>pure o.cls) (Looks.now (a:=ox.cls));rw[h2] at z;exact z
theorem xh7{tp:Value}{R:Result->Shared->Prop}(X:K.In s.heap)(I:ExcAt x C s.heap)(hm:mroIn K C (.type "object")=some true)(h:R (.ok (.ret (.ref C))) s) :
  codeAny (model prog w) A (.call (.builtin "getset_descriptor.__get__") ⟨[.builtin "object.__class__",.ref x,tp],[]⟩) R s:=by
 obtain⟨h1,g1,d1,t1,o1⟩:=s;have Lt:=I.type (M:=model prog w);have Lm:=looks_mroIn (M:=model prog w) X hm;refine Ww KF.slot_gs.plain KF.entry_gs ?_;refine KF.slot_gs.check _ _ _ _ _ _ _ _ KF.type_class (KF.args_gs _ _ _) ?_;unfold Builtin.«getset_descriptor.__get__» descrGet;rw[dga_obj];refine Za (Zb ?_);unfold descrGetter descrCheckInstance descrNameAndClass isInstance;simp only[KF.owner_class]
 repeat lk
 refine⟨Code.quiet_builtin _ (by decide +kernel),YY KF.entry_class ?_⟩;unfold Builtin.«object.__class__» shownTypeOf
 repeat lk
 exact h
theorem qZ0{tk:Tok}{Q:Fin->Shared->Prop}(X:K.In s.heap)(I:ExcAt x C s.heap)
  (ha:findIn K (.ref C) "__class__" = some (some (.builtin "object.__class__"))) (hn:specialIn K (.builtin "object.__class__") "__get__" = some (some (.builtin "getset_descriptor.__get__"))) (htk:takesIn K (.builtin "object.__class__")=some true)
  (hm:mroIn K C (.type "object")=some true) (hc:(clsIn K C).isSome=true) (h:Q (.done (.ret (.ref C))) s):wpAny (model prog w) A (Builtin.«object.__getattribute__» ⟨[.ref x,.str "__class__" tk],[]⟩) Q E s:=by
 obtain⟨hh,g,d,t,os⟩:=s;have L0:=I.type (M:=model prog w);have L4:Looks (model prog w) hh (Builtin.ObjectAttr.find (.ref x) (.ref C) "__class__") (Builtin.ObjectAttr.Found.bind (.builtin "getset_descriptor.__get__") (.builtin "object.__class__")):=by
  have y1:=looks_findIn (M:=model prog w) X ha;have y2:Looks (model prog w) hh (Builtin.ObjectAttr.getOf (some (.builtin "object.__class__"))) (some (.builtin "getset_descriptor.__get__")):=looks_specialIn X hn;have y3:=looks_takesIn (M:=model prog w) X htk;have y4:Looks (model prog w) hh (Builtin.ObjectAttr.dataDescriptor? (some (.builtin "object.__class__")) (some (.builtin "getset_descriptor.__get__"))) (some (.builtin "getset_descriptor.__get__",.builtin "object.__class__")):=y3.andThen .now;exact y1.andThen (y2.andThen (y4.andThen (Looks.tag .now)))
 unfold Builtin.«object.__getattribute__»
 repeat (first|with_reducible refine L0.at ?_|with_reducible refine L4.at ?_|wp_step)
 refine xh7 X I hm ?_
 repeat (any_goals (first|assumption|wp_step))
theorem qZ1{M:Model}{nameV:Value}{P:Unit->Shared->Prop}(X:K.In s.heap)(I:ExcAt x C s.heap)(hb:mroIn K C (.type "BaseException")=some true)(h:P () s) :
  wpAny M A (checkBuiltinCall "BaseException.__getattribute__" ⟨[.ref x,nameV],[]⟩) P E s:=by
 have hk:builtinKind "BaseException.__getattribute__" = some .slot:=by decide +kernel
 have hsplit:splitId "BaseException.__getattribute__" = some ("BaseException", "__getattribute__"):=by decide +kernel
 have hargs:=F.args_bexc_ga (.ref x) nameV;obtain⟨hh,g,d,t,os⟩:=s;have L0:=I.type (M:=M);have L3:=looks_mroIn (M:=M) X hb;simp only[checkBuiltinCall,hk,hsplit];refine Za ?_;unfold isInstance;refine Za (L0.at (L3.at ?_))
 repeat (first|assumption|wp_step)
theorem q74{tk:Tok}{R:Result->Shared->Prop}(X:K.In s.heap)(I:ExcAt x C s.heap)
  (ha:findIn K (.ref C) "__class__" = some (some (.builtin "object.__class__"))) (hn:specialIn K (.builtin "object.__class__") "__get__" = some (some (.builtin "getset_descriptor.__get__"))) (htk:takesIn K (.builtin "object.__class__")=some true)
  (hm:mroIn K C (.type "object")=some true) (hb:mroIn K C (.type "BaseException")=some true) (hc:(clsIn K C).isSome=true) (h:R (.ok (.ret (.ref C))) s) :
  codeAny (model prog w) A (.call (.builtin "BaseException.__getattribute__") ⟨[.ref x,.str "__class__" tk],[]⟩) R s:=
 Ww F.excAttr_ValueError.ga.plain F.entry_bexc_ga (qZ1 X I hb (qZ0 X I ha hn htk hm hc h))
theorem qZ2{Q:Option Value->Shared->Prop}(X:K.In s.heap)(I:ExcAt x C s.heap)(hga:findIn K (.ref C) "__getattribute__" = some (some (.builtin "BaseException.__getattribute__")))(hgt:findIn K (.ref C) "__getattr__" = some none)
  (ha:findIn K (.ref C) "__class__" = some (some (.builtin "object.__class__"))) (hn:specialIn K (.builtin "object.__class__") "__get__" = some (some (.builtin "getset_descriptor.__get__"))) (htk:takesIn K (.builtin "object.__class__")=some true)
  (hm:mroIn K C (.type "object")=some true) (hb:mroIn K C (.type "BaseException")=some true) (hc:(clsIn K C).isSome=true) (h:Q (some (.ref C)) { s with toks:=s.toks+1 }) :
  wpAny (model prog w) A (getAttr? (.ref x) "__class__") Q E s:=by
 have go:=λ(A':Around) (R:Result->Shared->Prop) (tk:Tok)=>q74 (prog:=prog) (w:=w) (A:=A') (R:=R) (s:={ s with toks:=s.toks+1 }) (tk:=tk) X I ha hn htk hm hb hc;obtain⟨hh,g,d,t,os⟩:=s;have L0:=I.type (M:=model prog w);have L1:=looks_findIn (M:=model prog w) X hga;have L2:=looks_findIn (M:=model prog w) X hgt;have f3:=F.excAttr_ValueError.ga.bind (.ref x);have hx2:(Value.builtin "BaseException.__getattribute__" == Value.builtin "object.__getattribute__")=false:=by decide +kernel
 have hx1:(onTheHeap (Value.ref C)&&Value.builtin "BaseException.__getattribute__" == Value.builtin "object.__getattribute__")=false:=by rw[hx2];rfl
 unfold getAttr? getAttrBy? getAttrBy;refine Za (wpAny_mkText (Za (Wu (Z3 (Za (L0.at (Za (L1.at ?_))))))));dsimp only;rw[Zh (by rw[hx1];exact Zs)];unfold getAttrByItsOwn
 repeat (any_goals (first|assumption|with_reducible refine L0.at ?_|with_reducible refine L2.at ?_|wp_step))
 refine go _ _ _ ?_
 repeat (any_goals (first|assumption|wp_step))
structure ExcCls(K:Frag)(C:Addr):Prop where
 hga:findIn K (.ref C) "__getattribute__" = some (some (.builtin "BaseException.__getattribute__"))
 hgt:findIn K (.ref C) "__getattr__" = some none
 ha:findIn K (.ref C) "__class__" = some (some (.builtin "object.__class__"))
 hn:specialIn K (.builtin "object.__class__") "__get__" = some (some (.builtin "getset_descriptor.__get__"))
 htk:takesIn K (.builtin "object.__class__")=some true
 hm:mroIn K C (.type "object")=some true
 hb:mroIn K C (.type "BaseException")=some true
 hc:(clsIn K C).isSome=true
theorem q75(T:ExcCls K C):KitX K (.ref x) (.ref C) (ExcAt x C) where
 ty:=λ_ _ _ I=>I.type
 it:=λ_ _ X _=>by
  have hc:=T.hc;unfold clsIn at hc;split at hc
  ·rename_i c' d' cd' sl' ho;intro A1 Q1 E1 s1 kp q1;unfold isType loadHead;refine Za (wpAny_loadPart (kp _ _ (X _ _ ho)) ?_);exact Zb q1
  ·cases hc
 ne:=λh tp dd its n sl X htp=>by
  have hc:=T.hc;refine Yo.mpr λq=>?_;have e:C=tp:=Value.ref.inj (X1.mp q);subst e;unfold clsIn at hc;split at hc
  ·rename_i c' d' cd' sl' ho;have z:=(X _ _ ho).symm.trans htp;cases z
  ·cases hc
 ca:=λX I k=>qZ2 X I T.hga T.hgt T.ha T.hn T.htk T.hm T.hb T.hc k
end
end L2
namespace L2
open PySem PySem.Spec PyProof.Rows PySem.W
section
variable{K:Frag}{h:Heap}{C:Addr}{bmB:List Value}{newId:String}
end
section
variable{X:Cx}{x:Str}{C:Addr}{E:XK}{e₀:Expr}{rest:List Expr}{t:TA}{np cpos pos:Pos}
end
section
variable{X:Cx}{j1:List (Addr×Obj)}{σ:St}{H:Hp}{s:Shared}
end
section
variable{prog:Program}{w:World}{A:Around}{E:Value->Shared->Prop}{s:Shared}{x C e:Addr}
end
end L2
namespace L2
open PySem PySem.Spec PyProof.Rows
section
variable{X:Cx}{k:Nat}{f xe:Addr}{fd:FuncData}{ps:List Str}{sp:SpH}{x:Str}{p pos:Pos}{e:Expr}{es:List Expr}{t:TA}
end
end L2
namespace L2
open PySem PySem.Spec PyProof.Rows PySem.W
section
variable{X:Cx}
def clsV:V->Option Value
 |.ty n=>some (.type n)
 |.ref a=>some (.ref a)
 |_=>none
theorem xh8{c:V}{u cv:Value}(r:RelV c u)(e:clsV c=some cv):u=cv:=by
 cases c with
 |ty n=>cases e;exact r
 |ref a=>cases e;exact r
 |_=>cases e
def ExcT(K:Frag)(H:Hp)(x:V)(t:Value):Prop:=∃a C,x=.ref a/\H a=some (.ext (ExcAt a C))/\ExcCls K C/\t=.ref C
theorem qj9:qg4 X (.builtin "isinstance") (λxs H Q=>∃x c t cv b,xs=[x,c]/\clsV c=some cv/\(TyOf X.K H x t\/ExcT X.K H x t)/\kitOne X.K t cv=some b/\Q (.bl b) H):=by
 intro j1 s σ H xs us Q I r h;obtain⟨x,c,t,cv,b,rfl,hc,ht,hk,q⟩:=h;obtain⟨u,u',rfl,rx,rc⟩:=xf8 r;cases xh8 rc hc;rcases ht with ty|⟨a,C,rfl,e,T,rfl⟩
 ·exact qV1 I rx ty hk λtk=>⟨.bl b,H,I.tok _,rfl,q⟩
 ·cases (show u=Value.ref a from rx);have p:ExcAt a C s.heap:=(I.hok a _ e).1;exact kia_one (q75 T) I.kIn p hk (λz=>nomatch z) λtk=>⟨.bl b,H,I.tok _,rfl,q⟩
theorem qE8{j1:List (Addr×Obj)}{σ:St}{H:Hp}{s s':Shared}{o₁:Obj}{wr:List Addr}(I:Inv X j1 σ H s)(mv:Moved wr (λa b=>b=a) { s with heap:=s.heap.push o₁ } s')(hn:∀b o,s.heap.get? b=some o->b∈wr->False):Inv X j1 σ H s':=by
 obtain⟨h',g',d',t',os'⟩:=s';obtain⟨m1,m2,m3,m4,m5⟩:=mv;cases (show g'=s.gens from m2);cases (show d'=s.drawn from m3);cases (show os'=s.os from m4);exact I.kept (h':=h') (t':=t') λb o e=>m1 b o (λz=>hn b o e z) (Zc _ e)
theorem qu6(hc:X.calm=true):qg4 X (.builtin "all") (λxs H Q=>∃(p:Addr)(bs:List Bool),xs=[.ref p]/\H p=some (.lst (bs.map V.bl))/\Q (.bl (bs.all id)) H):=by
 intro j1 s σ H xs us Q I r h;obtain⟨p,bs,rfl,hp,q⟩:=h;obtain⟨u,rfl,rx⟩:=qi2 r;cases rx;obtain⟨z,its,n,rv,hl⟩:=I.hok p _ hp;have isl:s.heap.IsList p its.toArray:=⟨_,hl,rfl,_,rfl⟩;have j2:its.length=bs.length:=by have:=rv.length;simpa using this.symm
 have np:p≠s.heap.objs.size:=ZB (Zr hl);refine call_all_walk (Xs isl ?_);refine⟨s.heap.objs.size,_,_,_,_,_,λi=>bs.getD i true,rfl,Walks.list (A:=X.A.in1) (I.ok.hd hc) s.heap.objs.size p np its.toArray,⟨⟨_,Zj _ rfl,rfl,rfl⟩,isl.at λo e=>Zc _ e⟩,?_,?_⟩
 ·intro i v s' Q' E' hv hq;have hv':its[i]?=some v:=by simpa using hv
  have hi:i<bs.length:=by rw[<- j2];exact (gS_ hv').1
  obtain⟨w',e1,e2⟩:=rv.get (x:=V.bl (bs[i])) (i:=i) (by simp[hi]);rw[hv'] at e1;cases e1;cases (show v=Value.bool bs[i] from e2);have eg:bs.getD i true=bs[i]:=by simp[List.getD,hi]
  dsimp only at hq;rw[eg] at hq;exact ZX hq
 ·intro h' tk k;refine⟨.bl (bs.all id),H,I.kept (h':=h') (t':=tk) (λb o e=>k b o (λz=>?_) (Zc _ e)),?_,q⟩
  ·have:b=s.heap.objs.size:=by simpa using z
   exact Ym _ (by rw[this] at e;exact Zr e)
  ·have es:its.toArray.size=bs.length:=by simpa using j2
   rw[es];show Value.bool _=Value.bool _;congr 1;rw[ZO,YR,YR];constructor
   ·intro z b hb;obtain⟨i,hi,e⟩:=ZI.mp hb;have:=z i (ZW.mpr hi);simpa [List.getD,hi,e] using this
   ·intro z i hi;have hi':=ZW.mp hi;have:=z bs[i] (XE hi');simpa [List.getD,hi'] using this
theorem qE9(hc:X.calm=true):qg4 X (.builtin "any") (λxs H Q=>∃(p:Addr)(bs:List Bool),xs=[.ref p]/\H p=some (.lst (bs.map V.bl))/\Q (.bl (bs.any id)) H):=by
 intro j1 s σ H xs us Q I r h;obtain⟨p,bs,rfl,hp,q⟩:=h;obtain⟨u,rfl,rx⟩:=qi2 r;cases rx;obtain⟨z,its,n,rv,hl⟩:=I.hok p _ hp;have isl:s.heap.IsList p its.toArray:=⟨_,hl,rfl,_,rfl⟩;have j2:its.length=bs.length:=by have:=rv.length;simpa using this.symm
 have np:p≠s.heap.objs.size:=ZB (Zr hl);refine call_any_walk (Xs isl ?_);refine⟨s.heap.objs.size,_,_,_,_,_,λi=>bs.getD i true,rfl,Walks.list (A:=X.A.in1) (I.ok.hd hc) s.heap.objs.size p np its.toArray,⟨⟨_,Zj _ rfl,rfl,rfl⟩,isl.at λo e=>Zc _ e⟩,?_,?_⟩
 ·intro i v s' Q' E' hv hq;have hv':its[i]?=some v:=by simpa using hv
  have hi:i<bs.length:=by rw[<- j2];exact (gS_ hv').1
  obtain⟨w',e1,e2⟩:=rv.get (x:=V.bl (bs[i])) (i:=i) (by simp[hi]);rw[hv'] at e1;cases e1;cases (show v=Value.bool bs[i] from e2);have eg:bs.getD i true=bs[i]:=by simp[List.getD,hi]
  dsimp only at hq;rw[eg] at hq;exact ZX hq
 ·intro h' tk k;refine⟨.bl (bs.any id),H,I.kept (h':=h') (t':=tk) (λb o e=>k b o (λz=>?_) (Zc _ e)),?_,q⟩
  ·have:b=s.heap.objs.size:=by simpa using z
   exact Ym _ (by rw[this] at e;exact Zr e)
  ·have es:its.toArray.size=bs.length:=by simpa using j2
   rw[es];show Value.bool _=Value.bool _;congr 1;rw[ZO,Z2,Z2];constructor
   ·rintro⟨i,hi,e⟩;have hi':=ZW.mp hi;refine⟨bs[i],XE hi',?_⟩;simpa [List.getD,hi'] using e
   ·rintro⟨b,hb,e⟩;obtain⟨i,hi,e2⟩:=ZI.mp hb;refine⟨i,ZW.mpr hi,?_⟩;have:bs.getD i true=bs[i]:=by simp[List.getD,hi]
    rw[this,e2];exact e
def best(ns:List Int):Nat->Int
 |0=>ns.getD 0 0
 |k+1=>if ns.getD (k+1) 0>best ns k then ns.getD (k+1) 0 else best ns k
theorem qM0(ns:List Int):∀k,ns.getD (argBest (λi j=>decide (ns.getD i 0>ns.getD j 0)) k) 0=best ns k/\argBest (λi j=>decide (ns.getD i 0>ns.getD j 0)) k<=k
 |0=>⟨rfl,Zf _⟩
 |k+1=>by
  obtain⟨h1,h2⟩:=qM0 ns k;unfold argBest best;rw[<- h1];by_cases hc:ns.getD (k+1) 0>ns.getD (argBest (λi j=>decide (ns.getD i 0>ns.getD j 0)) k) 0
  ·rw[Zm (Zq hc),Zm hc];exact⟨rfl,Zf _⟩
  ·rw[Zh (by simpa using hc),Zh hc];exact⟨rfl,Nat.le_succ_of_le h2⟩
theorem qZ3(hc:X.calm=true):qg4 X (.builtin "max") (λxs H Q=>∃(p:Addr)(ns:List Int),xs=[.ref p]/\H p=some (.lst (ns.map V.int))/\ns≠[]/\Q (.int (best ns (ns.length-1))) H):=by
 intro j1 s σ H xs us Q I r h;obtain⟨p,ns,rfl,hp,jB,q⟩:=h;obtain⟨u,rfl,rx⟩:=qi2 r;cases rx;obtain⟨z,its,n,rv,hl⟩:=I.hok p _ hp;have isl:s.heap.IsList p its.toArray:=⟨_,hl,rfl,_,rfl⟩;have j2:its.length=ns.length:=by have:=rv.length;simpa using this.symm
 have np:p≠s.heap.objs.size:=ZB (Zr hl);have es:its.toArray.size=ns.length:=by simpa using j2
 have pos:0<ns.length:=List.length_pos_iff.mpr jB;have item:∀(i:Nat)(v:Value),its.toArray[i]?=some v->∃t,v=.int (ns.getD i 0) t:=λi v hv=>by
  have hv':its[i]?=some v:=by simpa using hv
  have hi:i<ns.length:=by rw[<- j2];exact (gS_ hv').1
  obtain⟨w',e1,t,e2⟩:=rv.get (x:=V.int (ns[i])) (i:=i) (by simp[hi]);rw[hv'] at e1;cases e1;exact⟨t,by rw[e2];simp[List.getD,hi]⟩
 refine call_max_walkS (Xs isl ?_);refine⟨s.heap.objs.size,_,_,_,_,_,_,λi j=>decide (ns.getD i 0>ns.getD j 0),rfl,(Walks.list (A:=X.A.in1) (I.ok.hd hc) s.heap.objs.size p np its.toArray).toS,⟨⟨_,Zj _ rfl,rfl,rfl⟩,isl.at λo e=>Zc _ e⟩,?_,by rw[es];exact pos,?_,?_⟩
 ·intro b hb;rw[YC];rcases Zv.mp hb with rfl|hb
  ·exact ZL _
  ·have:b=p:=by simpa using hb
   subst this;exact Y2 (Zr hl)
 ·intro i j vi vj s' Q' E' hi hj hq;obtain⟨t,rfl⟩:=item i vi hi;obtain⟨t',rfl⟩:=item j vj hj;exact gt_int hq
 ·intro v s' hv mv;rw[es] at hv;obtain⟨t,rfl⟩:=item _ v hv;rw[(qM0 ns (ns.length-1)).1];refine⟨.int _,H,qE8 I mv (λb o e hb=>?_),⟨t,rfl⟩,q⟩;have:b=s.heap.objs.size:=by simpa using hb
  exact Ym _ (by rw[this] at e;exact Zr e)
theorem xw9{P:Program}{w:World}{k:Key}{v:Value}(h:(qd5 P w).is k v=true):RelV (kV k) v:=by
 rcases qd1 (show qH8 k v=true from h) with ⟨i,t,rfl,rfl⟩|⟨x,t,rfl,rfl⟩
 ·exact⟨t,rfl⟩
 ·exact⟨t,rfl⟩
theorem qA1:∀{xs:List V}{us:List Value},xs.length=us.length->(∀(i:Nat) x v,xs[i]?=some x->us[i]?=some v->RelV x v)->Vals xs us
 |[],[],_,_=>.nil
 |[],_::_,h,_=>by simp at h
 |_::_,[],h,_=>by simp at h
 |x::xs,u::us,h,f=>.cons (f 0 x u rfl rfl) (qA1 (by simpa using h) λi y v hy hv=>f (i+1) y v (by simpa using hy) (by simpa using hv))
theorem qR0(hc:X.calm=true):qg4 X (.type "list") (λxs H Q=>∃(d:Addr)(kvs:List (Key×V)),xs=[.ref d]/\H d=some (.dK kvs)/\∀l,H l=none->Q (.ref l) (upd H l (.lst (kvs.map λkv=>kV kv.1)))):=by
 intro j1 s σ H xs us Q I r h;obtain⟨d,kvs,rfl,hd,q⟩:=h;obtain⟨u,rfl,ru⟩:=qi2 r;cases ru;obtain⟨z,lo,vs,rel,dd⟩:=xo7 I.hok hd;obtain⟨ep,hat⟩:=dd.dictAt;have hl:=rel.length;refine kdl_call (kdl_dict (knd:=qd5 X.prog X.w) (kvs:=vs) (ep:=ep) lo) (I.ok.hd hc) hat (by rw[<- hl];exact z) λh' tk acc c kp ho jE=>?_;refine⟨.ref s.heap.objs.size,_,I.laid (a:=s.heap.objs.size) (o:=.lst (kvs.map λkv=>kV kv.1)) (t':=tk) kp (Zf _) ⟨by simpa using z,acc.toList,c,?_,by simpa using ho⟩,rfl,q _ I.fresh⟩;refine qA1 (by simp[hl,jE.1]) λi x v hx hv=>?_;rw[Zg] at hx;obtain⟨kv,kT,rfl⟩:=Zl.mp hx;obtain⟨k,y,hk,his⟩:=jE.2 i v (by simpa using hv);have e1:vs[i]?=some (k,y):=hk;have e2:kv.1=k:=by
  have z1:(kvs.map (·.1))[i]?=some kv.1:=by rw[Zg,kT];rfl
  have z2:(vs.map (·.1))[i]?=some k:=by rw[Zg,e1];rfl
  rw[rel.keys] at z1;rw[z1] at z2;exact ZC z2
 rw[e2];exact xw9 his
theorem qF0:qg4 X (.type "range") (λxs H Q=>∃n:Int,xs=[.int n]/\∀r,H r=none->Q (.ref r) (upd H r (.rng 0 n))):=by
 intro j1 s σ H xs us Q I r h;obtain⟨n,rfl,q⟩:=h;obtain⟨u,rfl,t,rfl⟩:=qi2 r;exact call_range_1 ⟨.ref s.heap.objs.size,_,I.laid (a:=s.heap.objs.size) (o:=.rng 0 n) (λb o e=>Zc _ e) (Zf _) ⟨_,_,_,Zj _ rfl⟩,rfl,q _ I.fresh⟩
theorem qR1(hc:X.calm=true):qg4 X (.type "list") (λxs H Q=>∃(r:Addr)(n:Nat),xs=[.ref r]/\H r=some (.rng 0 (n:Int))/\n<=1000000/\∀l,H l=none->Q (.ref l) (upd H l (.lst ((List.range n).map λ(i:Nat)=>V.int (i:Int))))):=by
 intro j1 s σ H xs us Q I rv h;obtain⟨r,n,rfl,hr,hn,q⟩:=h;obtain⟨u,rfl,ru⟩:=qi2 rv;cases ru;obtain⟨t,u,v,ho⟩:=I.hok r _ hr;refine call_list_range (a:=0) (b:=n) (c:=1) (n:=n) (I.ok.hd hc) ho (small_one (by lia) (by lia) (by lia) (by lia)) (by rw[rangeSize_one];split<;>lia) (by lia) λh' tk acc c kp ho' jE=>?_;refine⟨.ref s.heap.objs.size,_,I.laid (a:=s.heap.objs.size) (o:=.lst ((List.range n).map λ(i:Nat)=>V.int (i:Int))) (t':=tk) kp (Zf _) ⟨?_,acc.toList,c,?_,by simpa using ho'⟩,rfl,q _ I.fresh⟩
 ·rw[Ze,Y3,YZ];lia
 ·refine qA1 (by simp[jE.1]) λi x v hx hv=>?_;rw[Zg] at hx;obtain⟨j,hj,rfl⟩:=Zl.mp hx;have e:j=i:=by
   obtain⟨_,e⟩:=gS_ hj;simpa using e.symm
  subst e;obtain⟨t',rfl⟩:=jE.2 j v (by simpa using hv);exact⟨t',by simp⟩
end
namespace TupMul
theorem noFill:fillsNumberSlot (.type "tuple") "mul" = pure false:=
 PySem.fillsNumberSlot_seq (id:= "tuple.__mul__") (r:=some (.builtin "tuple.__rmul__")) XF.lookup (by decide +kernel) F.slot_tuple_rmul.lookup (by decide +kernel)
theorem rep:seqRepeat? (.type "tuple")=pure (some (.builtin "tuple.__mul__")):=by
 unfold seqRepeat?
 rw[PySem.seqSlot_of (T:= "tuple") (name:= "__mul__") (id:= "tuple.__mul__") XF.lookup (by decide +kernel),PySem.seqSlot_of (T:= "tuple") (name:= "__rmul__") (id:= "tuple.__rmul__") F.slot_tuple_rmul.lookup (by decide +kernel)]
 rfl
theorem declines(a:Int)(t:Tok)(l:Addr)(items:Array Value)(n:Nat)(dct:Option Addr)(sl:Array (Option Value)) :
  Meets (Builtin.«int.__rmul__» ⟨[.int a t,.ref l],[]⟩) (λ_ R s=>s.heap.get? l=some { cls:=.type "tuple",dict:=dct,data:=.seq items n,slots:=sl }/\R (.ok (.ret Value.notImplemented)) s):=
 .of_wp λprog w A R s h=>by
  obtain⟨hp,g,d,tk,os⟩:=s;obtain⟨hl,h⟩:=h
  wp_walk
  exact⟨_,rfl,h⟩
theorem mul(k:Int)(t:Tok)(l:Addr)(items:Array Value)(n:Nat)(dct:Option Addr)(sl:Array (Option Value))(h1:1<k)(h2:k<=1000)(hs:items.size=1) :
  Meets (Builtin.«tuple.__mul__» ⟨[.ref l,.int k t],[]⟩) (λ_ R s=>s.heap.get? l=some { cls:=.type "tuple",dict:=dct,data:=.seq items n,slots:=sl } /\
   R (.ok (.ret (.ref s.heap.objs.size))) { s with heap:=s.heap.push { cls:=.type "tuple",data:=.seq ((List.replicate k.toNat items).foldl (·++·) #[]) } }):=
 .of_wp λprog w A R s h=>by
  obtain⟨hp,g,d,tk,os⟩:=s;obtain⟨hl,h⟩:=h;have c1:(decide (k < -2^63)||decide (k>=2^63))=false:=by simp;lia
  have c0:items.isEmpty=false:=by
   cases he:items.isEmpty with
   |false=>rfl
   |true=>rw[Array.isEmpty_iff.mp he] at hs;cases hs
  have c2:(items.isEmpty||k==1)=false:=by rw[c0];simp;lia
  have c3:(decide (k<=0)||items.isEmpty)=false:=by rw[c0];simp;lia
  have c4:¬((items.size:Int)*k>(2^63-1)/8):=by rw[hs];lia
  have c5:Builtin.Tuple.tupleTooMany ((items.size:Int)*k)=false:=by
   rw[hs];show decide (((1:Nat):Int)*k>(sizeLine:Int))=false;rw[YZ];exact Zp (by lia)
  wp_walk
  refine Xl (λz=>by rw[c1] at z;cases z) λ_=>?_
  wp_walk
  refine Xl (λz=>by rw[c2] at z;cases z) λ_=>?_;refine Xl (λz=>by rw[c3] at z;cases z) λ_=>?_;refine Xl (λz=>absurd z c4) λ_=>?_;refine Xl (λz=>by rw[c5] at z;cases z) λ_=>?_
  wp_walk
  refine Xl (λz=>absurd z ?_) λ_=>?_
  ·have f:∀(m:Nat)(acc:Array Value),(List.foldl (λx1 x2=>x1++x2) acc (List.replicate m items)).size=acc.size+m:=λm=>by
    induction m with
    |zero=>intro acc;rfl
    |succ m ih=>
     intro acc;rw[WD,XW,ih,Array.size_append,hs];lia
   rw[f,YZ];simp;lia
  wp_walk
  exact⟨_,rfl,h⟩
end TupMul
section
variable{X:Cx}
theorem qA2:OpR X (binaryOp .Mult) (λx y H Q=>∃(l:Addr)(k:Int)(v:V),x=.ref l/\y=.int k/\H l=some (.tup [v])/\1<k/\k<=1000/\∀p,H p=none->Q (.ref p) (upd H p (.tup (List.replicate k.toNat v)))):=by
 intro j1 s σ H x y v u Q I rx ry h;obtain⟨l,k,v1,rfl,rfl,hH,h1,h2,q⟩:=h;cases rx;obtain⟨t,rfl⟩:=ry;obtain⟨_,its,r,o,ho,hc,⟨n,hdn⟩,hd⟩:=I.hok l _ hH;obtain⟨oc,od,odt,osl⟩:=o
 replace hc:oc=.type "tuple":=hc
 replace hd:odt=.seq its.toArray n:=hd
 subst hc hd;cases r with
 |cons r1 rr=>
  cases rr;rename_i u1;have hnew:List.foldl (λx1 x2=>x1++x2) #[] (List.replicate k.toNat #[u1])=(List.replicate k.toNat u1).toArray:=by
   have f:∀(m:Nat)(acc:List Value),List.foldl (λx1 x2=>x1++x2) acc.toArray (List.replicate m #[u1])=(acc++List.replicate m u1).toArray:=λm=>by
    induction m with
    |zero=>intro acc;simp
    |succ m ih=>
     intro acc;rw[WD,XW,show acc.toArray++#[u1]=(acc++[u1]).toArray by simp,ih];simp[WD]
   have:=f k.toNat [];simpa using this
  refine XH (T:= "tuple") (U:= "int") (by decide) ⟨_,ho,rfl⟩ (λs'=>Wq s' k t) TupMul.noFill F.fills_int_mul Xm TupMul.rep F.slot_int_index.lookup
   (Wr Xm (Wq s k t) F.entry_int_rmul (W0 _ _) (TupMul.declines k t l _ n od osl)
    ⟨ho,rfl,⟨_,ho,rfl⟩,Wr XF ⟨_,ho,rfl⟩ W1 (WO _ _) (TupMul.mul k t l _ n od osl h1 h2 rfl) ⟨ho,?_⟩⟩)
  rw[hnew];refine⟨.ref _,_,I.laid (a:=s.heap.objs.size) (o:=.tup (List.replicate k.toNat v1)) (t':=s.toks) (λb o e=>Zc _ e) (Zf _) ⟨?_,List.replicate k.toNat u1,?_,_,Zj _ rfl,rfl,⟨_,rfl⟩,rfl⟩,rfl,q _ I.fresh⟩
  ·rw[List.length_replicate,YZ];lia
  ·generalize k.toNat=m
   induction m with
   |zero=>exact .nil
   |succ m ih=>exact .cons r1 ih
end
end L2
namespace Qf
abbrev Row:=List Nat
def mx:List Nat->Nat
 |[]=>0
 |a::l=>max a (mx l)
theorem qJ3{x:Nat}:∀{l:List Nat},x∈l->x<=mx l
 |a::l,h=>by
  rcases Zv.mp h with rfl|h
  ·exact Nat.le_max_left _ _
  ·exact ZH (qJ3 h) (Nat.le_max_right _ _)
theorem xh9{b:Nat}:∀{l:List Nat},(∀x∈l,x<=b)->mx l<=b
 |[],_=>Zx _
 |a::l,h=>Nat.max_le.mpr ⟨h a Zu,xh9 λx hx=>h x (Zn _ hx)⟩
theorem q76{f g:Nat->Nat}{l:List Nat}(h:∀x∈l,f x=g x):mx (l.map f)=mx (l.map g):=by
 rw[Ye h]
def xi0(p:Nat)(r:Row):Prop:=r.length=4/\∀x∈r,x<p+2
def qb3(rows:List Row):Prop:=∀p r,rows[p]?=some r->xi0 p r
def xi1(ds:List Nat)(r:Row):List Nat:=ds++[1+mx (r.map (ds.getD · 0))]
def deps(rows:List Row):List Nat:=rows.foldl xi1 [0,0]
def dp(rows:List Row)(x:Nat):Nat:=(deps rows).getD x 0
theorem qm8(rows:List Row)(r:Row):deps (rows++[r])=deps rows++[1+mx (r.map (dp rows))]:=by
 unfold deps dp deps;rw[Xw]
 rfl
theorem qM1{P:List Row->Prop}(h0:P [])(h1:∀l a,P l->P (l++[a]))(l:List Row):P l:=by
 have:∀m:List Row,P m.reverse:=λm=>by
  induction m with
  |nil=>exact h0
  |cons a m ih=>rw[List.reverse_cons];exact h1 _ _ ih
 have h:=this l.reverse
 rwa [List.reverse_reverse] at h
theorem qm9(rows:List Row):(deps rows).length=rows.length+2:=by
 induction rows using qM1 with
 |h0=>rfl
 |h1 l a ih=>rw[qm8,Zi,ih,Zi];simp
theorem qR2{rows:List Row}{r:Row}{x:Nat}(h:x<rows.length+2):dp (rows++[r]) x=dp rows x:=by
 unfold dp;rw[qm8,ZD,ZD,Zo (by rw[qm9];exact h)]
theorem qR3{rows:List Row}{r:Row}:dp (rows++[r]) (rows.length+2)=1+mx (r.map (dp rows)):=by
 unfold dp;rw[qm8,ZD,Zk (by rw[qm9];exact Zf _),qm9];simp only[Yz,List.getElem?_cons_zero,Option.getD_some]
 rfl
theorem qi8{rows more:List Row}{x:Nat}(h:x<rows.length+2):dp (rows++more) x=dp rows x:=by
 induction more using qM1 with
 |h0=>simp
 |h1 l a ih=>
  rw[<- Xx,qR2 (by simp;lia),ih]
theorem qZ4{rows:List Row}{x:Nat}(h:x<2):dp rows x=0:=by
 have:=qi8 (rows:=[]) (more:=rows) (x:=x) (by simpa using h);rw[List.nil_append] at this;rw[this]
 match x,h with
 |0,_=>rfl
 |1,_=>rfl
theorem qZ5{rows:List Row}{p:Nat}{r:Row}(hp:rows[p]?=some r):rows=rows.take p++[r]++rows.drop (p+1):=by
 have j5:=(gS_ hp).1;have he:=(gS_ hp).2;rw[<- he,Y8 j5,List.take_append_drop]
theorem qF1{rows:List Row}(ok:qb3 rows){p:Nat}{r:Row}(hp:rows[p]?=some r):dp rows (p+2)=1+mx (r.map (dp rows)):=by
 have j5:=(gS_ hp).1;have hl:(rows.take p).length=p:=by simp;lia
 have e:=qZ5 hp;have h1:dp rows (p+2)=dp (rows.take p++[r]) (p+2):=by
  have:=qi8 (rows:=rows.take p++[r]) (more:=rows.drop (p+1)) (x:=p+2) (by simp;lia);rw[<- e] at this;exact this
 have h2:=qR3 (rows:=rows.take p) (r:=r);rw[hl] at h2;rw[h1,h2];congr 1;refine q76 λx hx=>?_;have hx2:=(ok p r hp).2 x hx;have:=qi8 (rows:=rows.take p) (more:=[r]++rows.drop (p+1)) (x:=x) (by rw[hl];exact hx2);rw[<- Xx,<- e] at this;exact this.symm
def dfs(rows:List Row):Nat->List Nat->Nat->List Nat
 |0,e,_=>e
 |d+1,e,x=>if x<2\/x-2∈e then e else (rows.getD (x-2) []).foldl (dfs rows d) e++[x-2]
theorem qu7{f:List Nat->Nat->List Nat}(h:∀e x,∃s,f e x=e++s):∀(l:List Nat)(e:List Nat),∃s,l.foldl f e=e++s
 |[],e=>⟨[],by simp⟩
 |a::l,e=>by
  obtain⟨s,hs⟩:=h e a;obtain⟨s',hs'⟩:=qu7 h l (f e a);exact⟨s++s',by rw[XW,hs',hs,Xx]⟩
theorem qZ6(rows:List Row):∀(d:Nat)(e:List Nat)(x:Nat),∃s,dfs rows d e x=e++s
 |0,e,x=>⟨[],by simp[dfs]⟩
 |d+1,e,x=>by
  unfold dfs;split
  ·exact⟨[],by simp⟩
  ·obtain⟨s,hs⟩:=qu7 (qZ6 rows d) (rows.getD (x-2) []) e;exact⟨s++[x-2],by rw[hs,Xx]⟩
structure Post(rows:List Row)(e:List Nat):Prop where
 nd:e.Nodup
 lt:∀p∈e,p<rows.length
 ch:∀(i p:Nat),e[i]?=some p->∀q∈rows.getD p [],q<2\/∃j:Nat,j<i/\e[j]?=some (q-2)
theorem qs1(rows:List Row):Post rows []:=⟨YT,λp hp=>(nomatch hp),λi p h=>by simp at h⟩
theorem qZ7{e s:List Nat}{j a:Nat}(h:e[j]?=some a):(e++s)[j]?=some a:=by
 have:=(gS_ h).1;rw[Zo this];exact h
theorem qh4{rows:List Row}(ok:qb3 rows):∀(d:Nat)(e:List Nat)(x:Nat),Post rows e->x<rows.length+2->dp rows x<=d->Post rows (dfs rows d e x)/\(x<2\/x-2∈dfs rows d e x)
 |0,e,x,pe,hx,hd=>by
  refine⟨pe,?_⟩;by_cases h:x<2
  ·exact .inl h
  ·exfalso;obtain⟨p,rfl⟩:∃p,x=p+2:=⟨x-2,by lia⟩;have hp:rows[p]?=some (rows[p]'(by lia)):=by simp[show p<rows.length by lia]
   rw[qF1 ok hp] at hd;lia
 |d+1,e,x,pe,hx,hd=>by
  unfold dfs;split
  ·rename_i h;exact⟨pe,h⟩
  ·rename_i h;obtain⟨h1,h2⟩:=not_or.mp h;obtain⟨p,rfl⟩:∃p,x=p+2:=⟨x-2,by lia⟩;rw[X7] at h2 ⊢;have j5:p<rows.length:=by lia
   have hp:rows[p]?=some rows[p]:=by simp[j5]
   have eg:rows.getD p []=rows[p]:=by simp[List.getD,j5]
   rw[eg];have jT:=qF1 ok hp;have rk:=ok p _ hp;have key:∀(l:List Nat)(e0:List Nat),(∀q∈l,q<p+2/\dp rows q<=d)->Post rows e0->Post rows (l.foldl (dfs rows d) e0)/\(∀q∈l,q<2\/q-2∈l.foldl (dfs rows d) e0)/\(∀a∈l.foldl (dfs rows d) e0,a∈e0\/a<p):=λl=>by
    induction l with
    |nil=>exact λe0 _ pe0=>⟨pe0,λq hq=>(nomatch hq),λa ha=>.inl ha⟩
    |cons q l ih=>
     intro e0 hl pe0;obtain⟨hq1,kB⟩:=hl q Zu;obtain⟨p1,m1⟩:=qh4 ok d e0 q pe0 (by lia) kB;obtain⟨p2,m2,n2⟩:=ih (dfs rows d e0 q) (λq' hq'=>hl q' (Zn _ hq')) p1;obtain⟨s,hs⟩:=qu7 (qZ6 rows d) l (dfs rows d e0 q);refine⟨p2,λq' hq'=>?_,λa ha=>?_⟩
     ·rcases Zv.mp hq' with rfl|hq'
      ·rcases m1 with z|z
       ·exact .inl z
       ·rw[XW,hs];exact .inr (Xz _ z)
      ·exact m2 q' hq'
     ·rcases n2 a ha with z|z
      ·
       have below:∀(d0:Nat)(e1:List Nat)(y:Nat),y<rows.length+2->∀a∈dfs rows d0 e1 y,a∈e1\/a+2<=y:=λd0=>by
        induction d0 with
        |zero=>exact λe1 y _ a ha=>.inl ha
        |succ d0 ihd=>
         intro e1 y hy a ha;unfold dfs at ha;split at ha
         ·exact .inl ha
         ·rename_i hh;obtain⟨hh1,hh2⟩:=not_or.mp hh;rcases Yi.mp ha with ha|ha
          ·have hy2:y-2<rows.length:=by lia
           have eg2:rows.getD (y-2) []=rows[y-2]:=by simp[List.getD,hy2]
           rw[eg2] at ha;have rk2:=ok (y-2) rows[y-2] (by simp[hy2]);have kk:∀(l2:List Nat)(e2:List Nat),(∀q∈l2,q<y-2+2)->∀a∈l2.foldl (dfs rows d0) e2,a∈e2\/a+2<=y:=λl2=>by
            induction l2 with
            |nil=>exact λe2 _ a ha=>.inl ha
            |cons q2 l2 ih2=>
             intro e2 jG a ha;rcases ih2 _ (λq' hq'=>jG q' (Zn _ hq')) a ha with z|z
             ·have kB:=jG q2 Zu;rcases ihd e2 q2 (by lia) a z with z|z
              ·exact .inl z
              ·exact .inr (by lia)
             ·exact .inr z
           exact kk _ _ rk2.2 a ha
          ·have:a=y-2:=by simpa using ha
           exact .inr (by lia)
       rcases below d e0 q (by lia) a z with z|z
       ·exact .inl z
       ·exact .inr (by lia)
      ·exact .inr z
   obtain⟨k1,k2,k3⟩:=key rows[p] e (λq hq=>⟨rk.2 q hq,by
    have:dp rows q<=mx (rows[p].map (dp rows)):=qJ3 (ZF.mpr ⟨q,hq,rfl⟩);lia⟩) pe
   refine⟨⟨?_,?_,?_⟩,.inr (ZN _ (by simp))⟩
   ·rw[Xy];refine⟨k1.nd,by simp,λa ha b hb=>?_⟩;have:b=p:=by simpa using hb
    subst this;intro z;subst z;rcases k3 a ha with z|z
    ·exact h2 z
    ·exact Ym _ z
   ·intro a ha;rcases Yi.mp ha with ha|ha
    ·exact k1.lt a ha
    ·have:a=p:=by simpa using ha
     lia
   ·intro i a hi q hq;by_cases j2:i<(rows[p].foldl (dfs rows d) e).length
    ·rw[Zo j2] at hi;rcases k1.ch i a hi q hq with z|⟨j,hj,ej⟩
     ·exact .inl z
     ·exact .inr ⟨j,hj,qZ7 ej⟩
    ·rw[Zk (by lia)] at hi;have vK:i-(rows[p].foldl (dfs rows d) e).length=0:=by
      have:=(gS_ hi).1;simp at this;lia
     rw[vK] at hi;have:a=p:=by simpa using hi.symm
     subst this;rw[eg] at hq;rcases k2 q hq with z|z
     ·exact .inl z
     ·obtain⟨j,hj,ej⟩:=ZI.mp z;exact .inr ⟨j,by lia,qZ7 (by simp[hj,ej])⟩
theorem nd_iff{α:Type}{l:List α}:l.Nodup<->∀i j:Nat,i<j->j<l.length->l[i]?≠l[j]?:=by
 unfold List.Nodup;rw[List.pairwise_iff_getElem];constructor
 ·intro h i j vB hj z;rw[Zd (by lia),Zd hj] at z;exact h i j (by lia) hj vB (ZC z)
 ·intro h i j hi hj vB z;refine h i j vB hj ?_;rw[Zd hi,Zd hj,z]
theorem qu8{rows:List Row}{p:Nat}(h:p<rows.length):rows[p]?=some (rows.getD p []):=by
 simp[List.getD,h]
def qF2(r:Row):Prop:=r=[0,0,0,0]\/r=[1,1,1,1]
instance(r:Row):Decidable (qF2 r):=by unfold qF2;infer_instance
structure Canon(n top:Nat)(rows:List Row):Prop where
 size:n<=12
 rok:qb3 rows
 inn:top<rows.length+2
 deep:dp rows top<=n
 unplain:∀r∈rows,¬qF2 r
 unlike:rows.Nodup
 ends:dfs rows n [] top=List.range rows.length
def ex(q:Nat):Nat:=if q<2 then 1-q else q
theorem xx0(q:Nat):ex (ex q)=q:=by
 by_cases h:q<2
 ·have:ex q=1-q:=Zm h;rw[this];unfold ex;rw[Zm (by lia)];lia
 ·have:ex q=q:=Zh h;rw[this,this]
theorem qR4{q b:Nat}(h:q<b+2):ex q<b+2:=by unfold ex;split<;>lia
def exr(rows:List Row):List Row:=rows.map (·.map ex)
theorem xd1{rows:List Row}(ok:qb3 rows):qb3 (exr rows):=by
 intro p r hp;unfold exr at hp;rw[Zg] at hp;obtain⟨r0,h0,rfl⟩:=Zl.mp hp;refine⟨by rw[Ze];exact (ok p r0 h0).1,λx hx=>?_⟩;obtain⟨q,hq,rfl⟩:=ZF.mp hx;exact qR4 ((ok p r0 h0).2 q hq)
end Qf
namespace L2
open PySem PySem.Spec PyProof.Rows
section
variable{X:Cx}
theorem qM2{i0:Nat}{x0:Str}{px0 spos:Pos}{nn:List Str}{tg:Expr}{ifs:List Expr}{pos:Pos}{elt iter:Expr}{scope:Scope}{wi:TI}{g:TG}{tt:TT}{te:TE}(T:Env->Sem Bool)(hc:X.calm=true)(hi:PI X tg iter wi)
  (hturn:∀it acc env,compTurn (.ListComp elt [⟨tg,iter,ifs,0⟩] scope pos) 0 it acc env=(standAt iter.pos >>= λ_=>pyNext it >>= λr=>match r with
   |none=>pure (.done .next)
   |some v=>letOwnedTupleGo tg it v >>= λ_=>assign tg env v >>= λ_=>T env >>= λok=>(if ok=true then (eval elt env >>= λx=>call (.builtin "list.append") [acc,x] >>= λ_=>pure ()) else pure ()) >>= λ_=>
     again (.compLoop (.ListComp elt [⟨tg,iter,ifs,0⟩] scope pos) 0 it acc env)))
  (hgt:∀cl C fp s₀ H₀,PG (qb2 X scope cl C nn fp s₀ H₀) tg g)
  (hloc2:∀y (os σ:St) H R,os.length=nn.length->g y (os++σ) H R->g y (os++σ) H λσ' H'=>(∃os':St,os'.length=nn.length/\σ'=os'++σ)/\R σ' H')
  (htt:∀cl C fp s₀ H₀ (j1:List (Addr×Obj)) (s:Shared) (σ:St) (H:Hp) (Q:Bool->Hp->Prop),Inv (qb2 X scope cl C nn fp s₀ H₀) j1 σ H s->tt σ H Q->wpAny (model X.prog X.w) X.A (T (compEnvC scope cl C X.env)) (TP (qb2 X scope cl C nn fp s₀ H₀) j1 σ Q) (λ_ _=>False) s)
  (he:∀cl C fp s₀ H₀,PE (qb2 X scope cl C nn fp s₀ H₀) elt te)
  (j7:scope.kind=.function) (j3:∀y∈scope.names,y.2≠.cell) (j4:∀y∈scope.names,y.2=.local->scope.names.lookup y.1=some .local)
  (jA:∀y∈X.N,scope.names.lookup y≠some .local) (hfr:∀p∈scope.names,p.2=.free->Vis X.env.scope p.1/\X.env.scope.names.lookup p.1≠some .local)
  (hs:∀x,foldedSetIterable iter X.env x=pure x) (hN0:X.N.Nodup) (vK:X.N[i0]?=some x0) (hx0:X.env.scope.names.lookup x0=some .local) (hsw:swapsWith (.ListComp elt [⟨tg,iter,ifs,0⟩] scope pos) (some (.Name x0 px0)) spos.line X.env=pure true) :
  PS X (.Assign [.Name x0 px0] (.ListComp elt [⟨tg,iter,ifs,0⟩] scope pos) spos) (tAsg (qm7 nn.length wi g tt te) (qf2 i0)):=by
 intro j1 s σ H EE I h;rw[exec_Assign_Name_used _ _ _ _ hsw];refine Za (wpAny_standAt (Za ?_));show wpAny _ X.A (do let _ <- comprehension (.ListComp elt [⟨tg,iter,ifs,0⟩] scope pos) scope X.env _ (newList []) false (eval iter X.env) (some (assign (.Name x0 px0) X.env))) _ _ s;refine Za (Yu (qy0 (use:=some (assign (.Name x0 px0) X.env)) (QQ:=λ_ s'=>SP X j1 EE .next s') T hc hi hturn hgt hloc2 htt he j7 j3 j4 jA hfr hs I h λD C H3 s4 m4 fC jU iv qn=>?_) (λ_ s' hq=>Zb (Zb hq)) λ_ _ e=>e);have IX:Inv X j1 σ H3 s4:=iv s4.heap (Heap.SameBut.refl _ _);obtain⟨oC,esC,epC,hoC,rC⟩:=id jU;have IP:=IX.pinned (fp:=[C]) (λb hb=>by
  have:b=C:=by simpa using hb
  subst this;exact fC) (λb hb=>by
  have:b=C:=by simpa using hb
  subst this;exact⟨oC,hoC,λv z=>by rw[rC.1] at z;cases z⟩)
 show wpAny _ X.A (assign (.Name x0 px0) X.env (.ref D)) _ _ s4;refine wpAny_assign_Name (qy8 (v:=.ref D) IP hN0 vK (.inl hx0) rfl (λs5 I6=>?_) (.inr hx0));have pC:=I6.pin (C,oC) (ZN _ (ZN _ (qj8 (by simp) hoC)));refine⟨m4,jU.at' (λo e=>by rw[hoC] at e;cases e;exact pC.1),λh' sb=>⟨_,H3,?_,qn⟩⟩;exact I6.unpinned.turned (t':=s5.toks) (λb o hb e=>(sb.2 b hb).trans e) fC.1 fC.2.1 fC.2.2.2.1 fC.2.2.2.2.1 fC.2.2.2.2.2
theorem xi2{i0:Nat}{x0:Str}{px0 spos:Pos}{x:Str}{px pos:Pos}{elt iter:Expr}{scope:Scope}{wi:TI}{te:TE}(N:List Str)(sc:Scope)(kG:X.N=N)(kA:X.env.scope=sc)(hc:X.calm=true)(hN:X.N.Nodup)(vK:X.N[i0]?=some x0)(hx0:X.env.scope.names.lookup x0=some .local)(hi:PI X (.Name x px) iter wi)
  (he:∀cl C fp s₀ H₀,PE (qb2 X scope cl C [x] fp s₀ H₀) elt te)
  (j7:scope.kind=.function:=by rfl) (j3:scope.names.all (λy=>y.2 != .cell)=true:=by decide +kernel) (j4:scope.names.all (λy=>y.2 != .local||scope.names.lookup y.1==some .local)=true:=by decide +kernel)
  (hx:scope.names.lookup x=some .local:=by rfl) (jA:N.all (λy=>scope.names.lookup y != some .local)=true:=by decide +kernel)
  (hfr:scope.names.all (λp=>p.2 != .free||(sc.names.lookup p.1==some .cell||sc.names.lookup p.1==some .free))=true:=by decide +kernel)
  (hs:∀x,foldedSetIterable iter X.env x=pure x:=by intro _;rfl) (hsw:swapsWith (.ListComp elt [⟨.Name x px,iter,[],0⟩] scope pos) (some (.Name x0 px0)) spos.line X.env=pure true:=by rfl) :
  PS X (.Assign [.Name x0 px0] (.ListComp elt [⟨.Name x px,iter,[],0⟩] scope pos) spos) (tAsg (qm7 1 wi (qf2 0) qQ9 te) (qf2 i0)):=by
 obtain⟨s1,s2,s3,s4⟩:=qi7 kG kA j3 j4 jA hfr;refine qM2 (nn:=[x]) (λ_=>pure true) hc hi (λit acc env=>qJ1 elt _ iter scope pos it acc env) (λcl C fp s₀ H₀=>?_) (λy os σ H R ho h=>loc1 ho h) (λcl C fp s₀ H₀ j1 s σ H Q I h=>Zb ⟨H,I,h⟩) he j7 s1 s2 s3 s4 hs hN vK hx0 hsw;have l:(qb2 X scope cl C [x] fp s₀ H₀).env.scope.names.lookup x=some .local:=YD hx;exact ql1 (i:=0) (Z9.mpr ⟨λz=>s3 x z hx,hN⟩) rfl (.inl l) (.inr l)
end
end L2
namespace L2
open PySem PySem.Spec PyProof.Rows PySem.W
section
variable{X:Cx}
def xp8:TE:=λ_ H Q=>∀p,H p=none->Q (.ref p) (upd H p (.dK []))
theorem q77{pos:Pos}:PE X (.Dict [] [] pos) xp8:=λj1 s σ H Q I h=>by
 have hb:sysModules<s.heap.objs.size:=W9 (by decide) (I.mod.glob.keeps I.bk).lt;exact wpAny_Dict_empty ⟨.ref s.heap.objs.size,_,I.laid (a:=s.heap.objs.size) (o:=.dK []) (t':=s.toks) (λ_ _ q=>Zc _ q) (Zf _) ⟨Zx _,Yp.mpr (Xc (ZB hb)),[],.nil,Heap.DictOf.new _⟩,rfl,h _ (I.hok.fresh (Zf _))⟩
end
end L2
namespace L2
open PySem PySem.Spec PyProof.Rows
theorem q78{wi:TI}{te:TE}:xg7 wi te=qm7 1 wi (qf2 0) qQ9 te:=by
 funext σ H Q;unfold xg7 qm7;congr 1;funext J H1;refine propext (YB λD=>YB λ_=>exists_congr λW=>Wz λ_=>YB λi=>YB λm=>YB λxs=>YB λH2=>YB λ_=>Wz λ_=>Wz λ_=>or_congr_right (Wz λ_=>YB λy=>YB λH3=>YB λ_=>⟨λh os ho=>?_,λh=>?_⟩))
 ·match os,ho with
  |[o],_=>
   unfold qf2 qQ9;dsimp only;rw[Zm rfl];exact h
 ·have z:=h [none] rfl;unfold qf2 qQ9 at z;dsimp only at z;rw[Zm rfl] at z;exact z
section
variable{X:Cx}
theorem qh5{x:Str}{px pos:Pos}{elt iter:Expr}{scope:Scope}{wi:TI}{te:TE}(N:List Str)(sc:Scope)(kG:X.N=N)(kA:X.env.scope=sc)(hc:X.calm=true)(hN:X.N.Nodup)(hi:PI X (.Name x px) iter wi)(he:∀cl C fp s₀ H₀,PE (qb2 X scope cl C [x] fp s₀ H₀) elt te)
  (j7:scope.kind=.function:=by rfl) (j3:scope.names.all (λy=>y.2 != .cell)=true:=by decide +kernel) (j4:scope.names.all (λy=>y.2 != .local||scope.names.lookup y.1==some .local)=true:=by decide +kernel)
  (hx:scope.names.lookup x=some .local:=by rfl) (jA:N.all (λy=>scope.names.lookup y != some .local)=true:=by decide +kernel)
  (hfr:scope.names.all (λp=>p.2 != .free||(sc.names.lookup p.1==some .cell||sc.names.lookup p.1==some .free))=true:=by decide +kernel)
  (hs:∀x,foldedSetIterable iter X.env x=pure x:=by intro _;rfl):PE X (.ListComp elt [⟨.Name x px,iter,[],0⟩] scope pos) (xg7 wi te):=by
 obtain⟨s1,s2,s3,s4⟩:=qi7 kG kA j3 j4 jA hfr;rw[q78];refine qA0 (nn:=[x]) (λ_=>pure true) hc hi (λit acc env=>qJ1 elt _ iter scope pos it acc env) (λcl C fp s₀ H₀=>?_) (λy os σ H R ho h=>loc1 ho h) (λcl C fp s₀ H₀ j1 s σ H Q I h=>Zb ⟨H,I,h⟩) he j7 s1 s2 s3 s4 hs;have l:(qb2 X scope cl C [x] fp s₀ H₀).env.scope.names.lookup x=some .local:=YD hx;exact ql1 (i:=0) (Z9.mpr ⟨λz=>s3 x z hx,hN⟩) rfl (.inl l) (.inr l)
end
end L2
namespace L2
open PySem
theorem qb4{H:Hp}{a b:Addr}{o u:HO}(e:H a=some o)(hn:H b=none):upd H b u a=some o:=by rw[qa7 (qa4 e hn)];exact e
theorem qb0{H:Hp}{a:Addr}{o:HO}(h:H a=none):Same H (upd H a o):=λb u e=>qb4 e h
def Tups(H H':Hp):Prop:=∀b u,H b=some (.tup u)->H' b=some (.tup u)
theorem Same.tups{H H':Hp}(s:Same H H'):Tups H H':=λb u e=>s b _ e
structure Goes(J:It)(H:Hp)(n:Nat)(item:Nat->V->Hp->Prop):Prop where
 go:∀i H2,i<n->Same H H2->J.go i H2
 yl:∀i H2 y H3,i<n->Same H H2->J.yld i H2 y H3->Same H2 H3/\item i y H3
 st:∀H2,Same H H2->J.stop n H2
theorem qk0{K:PySem.W.Frag}{H:Hp}{a:Addr}{xs:List V}(ha:H a=some (.tup xs)):Goes (Itt K a) H xs.length (λi y _=>xs[i]?=some y) where
 go:=λi H2 hi s=>⟨xs,xs[i],SqT.of (s _ _ ha),by simp[hi]⟩
 yl:=λi H2 y H3 hi s h=>by
  obtain⟨e,h⟩:=h;subst e;exact⟨Same.refl _,h xs (SqT.of (s _ _ ha))⟩
 st:=λH2 s=>⟨xs,SqT.of (s _ _ ha),Zf _⟩
theorem qA3{K:PySem.W.Frag}{H:Hp}{a:Addr}{xs:List V}(ha:H a=some (.lst xs)):Goes (Itl K a) H xs.length (λi y _=>xs[i]?=some y) where
 go:=λi H2 hi s=>⟨xs,xs[i],SqL.of (s _ _ ha),by simp[hi]⟩
 yl:=λi H2 y H3 hi s h=>by
  obtain⟨e,h⟩:=h;subst e;exact⟨Same.refl _,h xs (SqL.of (s _ _ ha))⟩
 st:=λH2 s=>⟨xs,SqL.of (s _ _ ha),Zf _⟩
theorem qu9{K:PySem.W.Frag}{H:Hp}{a:Addr}{xs:List V}(ha:H a=some (.tup xs)):Goes (Ite K a) H xs.length (λi y H3=>∃p x,y=.ref p/\xs[i]?=some x/\H3 p=some (.tup [.int i,x])) where
 go:=λi H2 hi s=>⟨xs,xs[i],SqT.of (s _ _ ha),by simp[hi]⟩
 yl:=λi H2 y H3 hi s h=>by
  obtain⟨p,x,hp,hx,rfl,rfl⟩:=h;exact⟨qb0 hp,p,x,rfl,hx xs (SqT.of (s _ _ ha)),qa1⟩
 st:=λH2 s=>⟨xs,SqT.of (s _ _ ha),Zf _⟩
theorem qg1{J:It}{H:Hp}{n:Nat}{item:Nat->V->Hp->Prop}{te:TE}{σ:St}{Fin:Hp->Prop}{D:Addr}(hD:H D=none)(Rel:Nat->V->Hp->Prop)(G:Goes J H n item)(hsz:n<sizeLine)
  (mono:∀i y H1 H2,i<n->Tups H1 H2->Rel i y H1->Rel i y H2)
  (step:∀i x H2,i<n->item i x H2->Same H H2->∀Q':VK,(∀y H3,Same H2 H3->Rel i y H3->Q' y H3)->te (some x::σ) H2 Q')
  (fin:∀ys H2,Same H H2->H2 D=some (.lst ys)->ys.length=n->(∀i y,ys[i]?=some y->Rel i y H2)->Fin H2) :
  ∃W:Nat->Nat->List V->Hp->Prop,(∃m,W 0 m [] (upd H D (.lst []))) /\
   ∀i m xs H2,W i m xs H2->H2 D=some (.lst xs)/\xs.length<sizeLine/\((J.stop i H2/\Fin H2)\/(J.go i H2/\∀y H3,J.yld i H2 y H3 ->
    te (some y::σ) H3 λv H4=>H4 D=some (.lst xs)/\∃m',m'<m/\W (i+1) m' (xs++[v]) (upd H4 D (.lst (xs++[v]))))):=by
 refine⟨λi m ys H2=>i<=n/\m=n-i/\ys.length=i/\H2 D=some (.lst ys)/\Same H H2/\∀j y,ys[j]?=some y->Rel j y H2,⟨n,Zx _,rfl,rfl,qa1,qb0 hD,λj y h=>by simp at h⟩,?_⟩;rintro i m ys H2 ⟨hi,rfl,hl,hd,s2,rel⟩;refine⟨hd,by lia,?_⟩;by_cases he:i=n
 ·subst he;exact .inl ⟨G.st H2 s2,fin ys H2 s2 hd hl rel⟩
 ·refine .inr ⟨G.go i H2 (by lia) s2,λy H3 hy=>?_⟩;obtain⟨s3,it⟩:=G.yl i H2 y H3 (by lia) s2 hy;refine step i y H3 (by lia) it (s2.trans s3) _ λv H4 s4 r4=>?_;have jR:=s4 _ _ (s3 _ _ hd);refine⟨jR,n-(i+1),by lia,by lia,rfl,by rw[Zi,hl];rfl,qa1,?_,?_⟩
  ·intro b o e;rw[qa7 (qa4 e hD)];exact s4 _ _ (s3 _ _ (s2 _ _ e))
  ·have tk:Tups H4 (upd H4 D (.lst (ys++[v]))):=λb u e=>by
    have:b≠D:=λz=>by subst z;rw[jR] at e;cases e
    rw[qa7 this];exact e
   intro j z hz;by_cases hj:j<i
   ·rw[Zo (by lia)] at hz;exact mono j z H4 _ (by lia) tk (mono j z H2 H4 (by lia) (s3.trans s4).tups (rel j z hz))
   ·rw[Zk (by lia)] at hz;have:j-ys.length=0:=by
     have:=(gS_ hz).1;simp at this;lia
    rw[this] at hz;have:z=v:=by simpa using hz.symm
    subst this;have:j=i:=by lia
    subst this;exact mono _ _ H4 _ (by lia) tk r4
theorem qk1{J:It}{H:Hp}{n k:Nat}{item:Nat->V->Hp->Prop}{g:TG}{tt:TT}{te:TE}{σ:St}{Fin:Hp->Prop}{D:Addr}(hD:H D=none)(yes:Nat->Bool)(val:Nat->V)(G:Goes J H n item)(hsz:n<sizeLine)
  (step:∀i x H2,i<n->item i x H2->Same H H2->∀os:St,os.length=k->∀(Q1:Hp->Prop)(Q2:VK),(yes i=false->∀H3,Same H2 H3->Q1 H3)->(yes i=true->∀H3,Same H2 H3->Q2 (val i) H3) ->
   g x (os++σ) H2 λσ4 H4=>tt σ4 H4 λb H5=>if b=true then te σ4 H5 Q2 else Q1 H5)
  (fin:∀H2,Same H H2->H2 D=some (.lst (((List.range n).filter yes).map val))->Fin H2) :
  ∃W:Nat->Nat->List V->Hp->Prop,(∃m,W 0 m [] (upd H D (.lst []))) /\
   ∀i m xs H2,W i m xs H2->H2 D=some (.lst xs)/\xs.length<sizeLine/\((J.stop i H2/\Fin H2)\/(J.go i H2/\∀y H3,J.yld i H2 y H3->∀os:St,os.length=k ->
    g y (os++σ) H3 λσ4 H4=>tt σ4 H4 λb H5=>if b=true then te σ4 H5 λv H6=>H6 D=some (.lst xs)/\∃m',m'<m/\W (i+1) m' (xs++[v]) (upd H6 D (.lst (xs++[v]))) else ∃m',m'<m/\W (i+1) m' xs H5)):=by
 refine⟨λi m ys H2=>i<=n/\m=n-i/\ys=((List.range i).filter yes).map val/\H2 D=some (.lst ys)/\Same H H2,⟨n,Zx _,rfl,rfl,qa1,qb0 hD⟩,?_⟩;rintro i m ys H2 ⟨hi,rfl,hl,hd,s2⟩;have j2:ys.length<=i:=by
  rw[hl,Ze];exact ZH (Wl _ _) (by simp)
 refine⟨hd,by lia,?_⟩;by_cases he:i=n
 ·subst he;exact .inl ⟨G.st H2 s2,fin H2 s2 (hl▸hd)⟩
 ·refine .inr ⟨G.go i H2 (by lia) s2,λy H3 hy os ho=>?_⟩;obtain⟨s3,it⟩:=G.yl i H2 y H3 (by lia) s2 hy;refine step i y H3 (by lia) it (s2.trans s3) os ho _ _ (λhno H4 s4=>?_) (λhyes H4 s4=>?_)
  ·refine⟨n-(i+1),by lia,by lia,rfl,?_,s4 _ _ (s3 _ _ hd),(s2.trans s3).trans s4⟩;rw[hl,Yb,X8];simp[hno]
  ·have jR:=s4 _ _ (s3 _ _ hd);refine⟨jR,n-(i+1),by lia,by lia,rfl,?_,qa1,λb o e=>?_⟩
   ·rw[hl,Yb,X8];simp[hyes]
   ·rw[qa7 (qa4 e hD)];exact s4 _ _ (s3 _ _ (s2 _ _ e))
theorem ixL{X:Cx}(K:PySem.W.Frag)(h:X.K=K):IxR X (rIxL K):=h▸ix_list
theorem ixT{X:Cx}(K:PySem.W.Frag)(h:X.K=K):IxR X (rIxT K):=h▸ix_tup
theorem tupO{X:Cx}(K:PySem.W.Frag)(h:X.K=K):qg4 X (.type "tuple") (λxs H Q=>∃p ys,xs=[.ref p]/\((SqL K H p ys/\∀l,H l=none->Q (.ref l) (upd H l (.tup ys)))\/(SqT K H p ys/\Q (.ref p) H))):=h▸qz6
theorem piT{X:Cx}{tg l:Expr}{tl:TE}(K:PySem.W.Frag)(h:X.K=K)(hl:PE X l tl):PI X tg l (iTup K tl):=h▸qt3 hl
end L2
namespace Pr
open PySem L2
abbrev qF3:Stmt:=top 8
abbrev qM3:Stmt:=top 9
abbrev qF4:Stmt:=top 10
abbrev qZ8:Stmt:=top 11
abbrev sEnd:Stmt:=top 12
abbrev qA4:Stmt:=top 13
abbrev q79:Stmt:=top 16
abbrev qv0:Stmt:=top 18
abbrev sRow:Stmt:=top 19
abbrev qZ9:Stmt:=top 20
abbrev qs2:Stmt:=top 21
abbrev qF5:Stmt:=top 22
abbrev qM4:Stmt:=top 23
abbrev q00:Stmt:=top 25
abbrev qF6:Stmt:=top 26
abbrev qs3:Stmt:=top 30
abbrev qn0:Stmt:=top 32
abbrev qi9:Stmt:=top 33
abbrev qJ4:Stmt:=qc6 (top 34) 0
abbrev qv1:Stmt:=qc6 (top 34) 1
abbrev qM5:Stmt:=qc6 (top 34) 2
abbrev qA5:Stmt:=qc6 (top 34) 3
abbrev q01:Stmt:=qc6 (top 34) 4
abbrev q80:Stmt:=qc6 (top 34) 5
abbrev qs4:Stmt:=top 35
abbrev lPot:Stmt:=top 37
abbrev qM6:Stmt:=top 38
abbrev qy1:Stmt:=top 39
abbrev lHas:Stmt:=top 40
abbrev qj0:Stmt:=top 41
abbrev qs5:Stmt:=top 42
abbrev qk2:Stmt:=top 43
abbrev q81:Stmt:=top 44
abbrev qM7:Stmt:=top 45
abbrev qA6:Stmt:=top 46
abbrev qF7:Stmt:=top 47
abbrev qM8:Stmt:=top 48
abbrev lLaw:Stmt:=top 49
end Pr
namespace L2
open PySem PySem.Spec PyProof.Rows
theorem qd4{N P:List Str}{sc:Scope}(a:sc.kind=.function:=by rfl)(b:sc.isCoroutine=false:=by rfl)(c:sc.isGenerator=false:=by rfl)(d:N.Nodup:=by decide +kernel)(e:N.take P.length=P:=by rfl)(f:∀x∈P,sc.names.lookup x=some .local\/sc.names.lookup x=some .cell:=by decide +kernel)(g:∀y∈sc.names,y.2≠.free:=by decide +kernel):FnScope N P sc:=⟨a,b,c,d,e,f,g⟩
section
variable{X:Cx}
theorem psN(i:Nat){x:Str}{e:Expr}{te:TE}{pos pos':Pos}(hN:X.N.Nodup)(he:PE X e te)(hi:X.N[i]?=some x:=by rfl)(hx:Loc X.env.scope x:=by first|left;rfl|right;rfl)(hs:swapsWith e (some (.Name x pos')) pos.line X.env=pure false:=by rfl)(hf:X.fn x=true\/X.env.scope.names.lookup x=some .local:=by first|left;rfl|right;rfl|assumption):PS X (.Assign [.Name x pos'] e pos) (tAsg te (qf2 i)):=xn7 hN hi hx he hs hf
theorem pgN(i:Nat){x:Str}{pos:Pos}(hN:X.N.Nodup)(hi:X.N[i]?=some x:=by rfl)(hx:Loc X.env.scope x:=by first|left;rfl|right;rfl)(hf:X.fn x=true\/X.env.scope.names.lookup x=some .local:=by first|left;rfl|right;rfl|assumption):PG X (.Name x pos) (qf2 i):=ql1 hN hi hx hf
theorem pcN{k:Nat}{f:Addr}{fd:FuncData}{ps:List Str}{sp:Sp}{x:Str}{p pos:Pos}{e:Expr}{es:List Expr}{t:TA}(F:FnOk X.prog X.w X.K X.mg X.base CX0 k f fd ps sp)(hr:Room k X.A)(hm:X.mg x=some (.ref f))(hk:PySem.W.keepIn X.K (.ref f)=true)(hb:Binds X.K fd ps [])(ha:PA X (e::es) t)(hg:Gl X x:=by rfl)(kC:(x==("__debug__" : Str))=false:=by decide)(he:starEach (e::es) X.env=(false,eval e X.env)::starEach es X.env:=by rfl)(jF:(backTo pos (starEach es X.env)).any (·.1)=false:=by rfl) :
  PE X (.Call (.Name x p) (e::es) [] pos) (xo1 sp [] E0 t):=qV2 F hr hg hm hk hb .nil qm3 ha kC he jF
theorem pxN{r:R2}{a b:Expr}{pos:Pos}{ta tb:TE}(hr:IxR X r)(ha:PE X a ta)(hb:PE X b tb)(hs:qV8 b:=by intro _ _;rfl):PE X (.Subscript a b pos) (tOp r ta tb):=xv9 hr ha hb hs
end
end L2
namespace Pr
open PySem L2 Qf
structure Blt(mg:Str->Option Value):Prop where
 isi:mg "isinstance" = none
 int:mg "int" = none
 bool:mg "bool" = none
 tuple:mg "tuple" = none
 list:mg "list" = none
 set:mg "set" = none
 len:mg "len" = none
 all:mg "all" = none
 any:mg "any" = none
 enum:mg "enumerate" = none
 range:mg "range" = none
 max:mg "max" = none
 min:mg "min" = none
structure Cst(mg:Str->Option Value):Prop where
 first:∃t,mg "FIRST" = some (.int 2 t)
 full:∃t,mg "FULL" = some (.int 1 t)
 great:∃t,mg "GREATEST_SIZE" = some (.int 12 t)
def vN(r:List Nat):List V:=r.map λn:Nat=>V.int (n:Int)
theorem qg5(r:List Nat):(vN r).length=r.length:=Ze ..
theorem qv2{r:List Nat}{i:Nat}{x:V}(h:(vN r)[i]?=some x):∃n:Nat,r[i]?=some n/\x=.int (n:Int):=by
 unfold vN at h;rw[Zg] at h;obtain⟨n,h1,h2⟩:=Zl.mp h;exact⟨n,h1,h2.symm⟩
theorem xp9{r:List Nat}{i n:Nat}(h:r[i]?=some n):(vN r)[i]?=some (.int (n:Int)):=by
 unfold vN;rw[Zg,h];rfl
theorem xd2{r:List Nat}{i n:Nat}(h:r[i]?=some n):atI (vN r) (i:Int)=some (.int (n:Int)):=qg7 (xp9 h)
theorem qv3(r:List Nat):vN r=(r.map λn:Nat=>(n:Int)).map V.int:=by unfold vN;rw[Y4];rfl
def RowsAt(H:Hp)(p:Addr)(rows:List Row):Prop:=∃bs:List Addr,H p=some (.tup (bs.map V.ref))/\bs.length=rows.length/\∀(i:Nat) b r,bs[i]?=some b->rows[i]?=some r->H b=some (.tup (vN r))
theorem RowsAt.mono{H H':Hp}{p:Addr}{rows:List Row}(h:RowsAt H p rows)(t:Tups H H'):RowsAt H' p rows:=by
 obtain⟨bs,h1,h2,h3⟩:=h;exact⟨bs,t _ _ h1,h2,λi b r e1 e2=>t _ _ (h3 i b r e1 e2)⟩
theorem RowsAt.same{H H':Hp}{p:Addr}{rows:List Row}(h:RowsAt H p rows)(t:Same H H'):RowsAt H' p rows:=h.mono t.tups
def RowsS(H:Hp)(p:Addr)(rows:List Row):Prop:=∃bs:List Addr,(H p=some (.tup (bs.map V.ref))\/H p=some (.lst (bs.map V.ref)))/\bs.length=rows.length/\∀(i:Nat) b r,bs[i]?=some b->rows[i]?=some r->H b=some (.tup (vN r))
theorem RowsAt.s{H:Hp}{p:Addr}{rows:List Row}(h:RowsAt H p rows):RowsS H p rows:=let ⟨bs,a,b,c⟩:=h;⟨bs,.inl a,b,c⟩
theorem RowsS.same{H H':Hp}{p:Addr}{rows:List Row}(h:RowsS H p rows)(s:Same H H'):RowsS H' p rows:=by
 obtain⟨bs,h1,h2,h3⟩:=h;exact⟨bs,h1.imp (s _ _) (s _ _),h2,λi b r e1 e2=>s _ _ (h3 i b r e1 e2)⟩
def rIxS(K:PySem.W.Frag):R2:=λx y H Q=>rIxL K x y H Q\/rIxT K x y H Q
theorem ixS{X:Cx}(K:PySem.W.Frag)(h:X.K=K):IxR X (rIxS K):=(ixL K h).or (ixT K h)
section
variable{P:Program}{w:World}{K:PySem.W.Frag}{mg:Str->Option Value}{base:Heap}
theorem xi3:FnScope ["thing"] ["thing"] (qa5 qF3):=qd4
inductive spWhole_(vs:List V)(H:Hp)(Q:VK):Prop
 |mk(i:Int)(e0:vs=[.int i])(e1:Q (.bl true) H)
def qJ5:Sp:=λvs H Q _=>spWhole_ vs H Q
theorem qM9{f:Addr}{fd:FuncData}(F:Fun K "is_whole" "is_whole" qF3 f fd)(B:Blt mg):FnOk P w K mg base CX0 1 f fd ["thing"] qJ5:=by
 refine F.ok xi3 (λvs H Q E h=>?_) (λcdv A outer s H vs Q E hr h=>?_)
 ·obtain⟨i,rfl,_⟩:=h
  rfl
 ·obtain⟨i,rfl,q⟩:=h;refine⟨_,qa9 (qb1 (qr0 (qa8 qj9 (by rfl) B.isi Z5 (qa0 (pv 0) (qa0 (qo8 (v:=.ty "int") (by rfl) B.int Yg rfl) qa2)))
   (qq9 (xn5 (qa8 qj9 (by rfl) B.isi Z5 (qa0 (pv 0) (qa0 (qo8 (v:=.ty "bool") (by rfl) B.bool PyProof.Rows.boot_bool rfl) qa2))))))),?_⟩
  exact⟨_,rfl,_,_,_,_,true,rfl,rfl,.inl (.int i),rfl,_,rfl,iteT ⟨_,rfl,_,_,_,_,false,rfl,rfl,.inl (.int i),rfl,_,rfl,q⟩⟩
theorem xq0:FnScope ["thing"] ["thing"] (qa5 q79):=qd4
inductive spSize_(vs:List V)(H:Hp)(Q:VK):Prop
 |mk(n:Nat)(e0:vs=[.int n])(e1:n<=12)(e2:Q (.bl true) H)
def xd3:Sp:=λvs H Q _=>spSize_ vs H Q
theorem xi4{f fW:Addr}{fd fdW:FuncData}(F:Fun K "is_size" "is_size" q79 f fd)(B:Blt mg)(T:Cst mg)(hW:mg "is_whole" = some (.ref fW))(FW:Fun K "is_whole" "is_whole" qF3 fW fdW)(bW:Binds K fdW ["thing"] []):FnOk P w K mg base CX0 2 f fd ["thing"] xd3:=by
 have GW:FnOk P w K mg base CX0 1 fW fdW ["thing"] qJ5:=qM9 FW B;obtain⟨tg,hgr⟩:=T.great;refine F.ok xq0 (λvs H Q E h=>?_) (λcdv A outer s H vs Q E hr h=>?_)
 ·obtain⟨x,rfl,_⟩:=h
  rfl
 ·obtain⟨n,rfl,hn,q⟩:=h;refine⟨_,qa9 (qb1 (qr0 (pcN GW hr hW FW.kp bW (qa0 (pv 0) qa2)) (qq9 (qK9 qC7 qC7 qa3 (pv 0) (qc5 (v:=.int 12) (by rfl) hgr ⟨_,rfl⟩))))),?_⟩;refine⟨_,rfl,n,rfl,_,rfl,iteT ⟨_,rfl,_,_,rfl,rfl,_,rfl,?_⟩⟩;have e:decide ((n:Int)<=12)=true:=Zq (by lia);refine ite2 (λ_=>⟨_,_,rfl,rfl,?_⟩) (λh1=>absurd (Zq (WP n)) h1);rw[e];exact q
theorem q82:FnScope ["thing", "many"] ["thing", "many"] (qa5 qv0):=qd4
inductive spNumber_(vs:List V)(H:Hp)(Q:VK):Prop
 |mk(n m:Nat)(e0:vs=[.int n,.int m])(e1:n<m+2)(e2:Q (.bl true) H)
def qA7:Sp:=λvs H Q _=>spNumber_ vs H Q
theorem q02{f fW:Addr}{fd fdW:FuncData}(F:Fun K "is_number" "is_number" qv0 f fd)(B:Blt mg)(T:Cst mg)(hW:mg "is_whole" = some (.ref fW))(FW:Fun K "is_whole" "is_whole" qF3 fW fdW)(bW:Binds K fdW ["thing"] []):FnOk P w K mg base CX0 2 f fd ["thing", "many"] qA7:=by
 have GW:FnOk P w K mg base CX0 1 fW fdW ["thing"] qJ5:=qM9 FW B;obtain⟨tf,hf⟩:=T.first;refine F.ok q82 (λvs H Q E h=>?_) (λcdv A outer s H vs Q E hr h=>?_)
 ·obtain⟨n,m,rfl,_⟩:=h
  rfl
 ·obtain⟨n,m,rfl,hn,q⟩:=h;refine⟨_,qa9 (qb1 (qr0 (pcN GW hr hW FW.kp bW (qa0 (pv 0) qa2)) (qq9 (qK9 qC7 qp0 qa3 (pv 0) (qa6 qb5 (pv 1) (qc5 (v:=.int 2) (by rfl) hf ⟨_,rfl⟩)))))),?_⟩;refine⟨_,rfl,n,rfl,_,rfl,iteT ⟨_,rfl,_,_,rfl,rfl,_,rfl,?_⟩⟩;have e:decide ((n:Int)<(m:Int)+2)=true:=Zq (by lia);refine ite2 (λ_=>⟨_,rfl,_,_,rfl,rfl,_,_,rfl,rfl,?_⟩) (λh1=>absurd (Zq (WP n)) h1);rw[e];exact q
theorem xi5:FnScope ["row"] ["row"] (qa5 qM3):=qd4
inductive spPlain_(vs:List V)(H:Hp)(Q:VK):Prop
 |mk(b:Addr)(r:Row)(e0:vs=[.ref b])(e1:H b=some (.tup (vN r)))(e2:r.length=4)(e3:∀H',Same H H'->Q (.bl (decide (qF2 r))) H')
def q03:Sp:=λvs H Q _=>spPlain_ vs H Q
theorem q04{l m:List Nat}(h:(l.map λn:Nat=>(n:Int))=m.map λn:Nat=>(n:Int)):l=m:=by
 induction l generalizing m with
 |nil=>cases m with
  |nil=>rfl
  |cons b m=>simp at h
 |cons a l ih=>cases m with
  |nil=>simp at h
  |cons b m=>
   rw[Zz,Zz] at h;injection h with h1 h2
   rw[ih h2,Int.ofNat.inj h1]
theorem q83{f:Addr}{fd:FuncData}(F:Fun K "is_plain" "is_plain" qM3 f fd)(T:Cst mg):FnOk P w K mg base CX0 2 f fd ["row"] q03:=by
 obtain⟨tf,hf⟩:=T.first;refine F.ok xi5 (λvs H Q E h=>?_) (λcdv A outer s H vs Q E hr h=>?_)
 ·obtain⟨b,r,rfl,_⟩:=h
  rfl
 ·obtain⟨b,r,rfl,hb,hl,q⟩:=h;refine⟨_,qa9 (qb1 (qr0 (qf9 qp0 (pxN ix_tup (pv 0) qa3) (qc5 (v:=.int 2) (by rfl) hf ⟨_,rfl⟩) (qb6 _))
   (qq9 (qf9 (qY1 hr) (pv 0) (qa6 qA2 (qc1 (qa0 (pxN ix_tup (pv 0) qa3) qa2)) qa3) (qb6 _))))),?_⟩
  match r,hl with
  |[x0,x1,x2,x3],_=>
   refine⟨_,rfl,b,_,0,.int x0,rfl,rfl,SqT.of hb,rfl,_,_,rfl,rfl,_,rfl,?_⟩;refine ite2 (λhc=>?_) (λhc=>?_)
   ·have h2:x0<2:=by have:=ZG hc;lia
    refine⟨_,rfl,_,rfl,b,_,0,.int x0,rfl,rfl,SqT.of hb,rfl,(by show 1<=sizeLine;decide),λp hp=>⟨p,4,.int x0,rfl,rfl,qa1,by decide,by decide,λp2 jQ=>?_⟩⟩;have kE:=qb4 (u:=.tup (List.replicate 4 (V.int x0))) (qb4 (u:=.tup [V.int x0]) hb hp) jQ;refine⟨dT [(x0:Int),(x1:Int),(x2:Int),(x3:Int)],dT [(x0:Int),(x0:Int),(x0:Int),(x0:Int)],.tup kE (DatasAt.ints [(x0:Int),(x1:Int),(x2:Int),(x3:Int)]),.tup qa1 (DatasAt.ints [(x0:Int),(x0:Int),(x0:Int),(x0:Int)]),qx9 _,qx9 _,(by show 1<=60;decide),?_⟩;rw[xp6];have e:decide (([(x0:Int),(x1:Int),(x2:Int),(x3:Int)]:List Int)=([(x0:Int),(x0:Int),(x0:Int),(x0:Int)]:List Int))=decide (qF2 [x0,x1,x2,x3]):=by
     congr 1;apply propext;unfold qF2;constructor
     ·intro z;have:[x0,x1,x2,x3]=[x0,x0,x0,x0]:=q04 (l:=[x0,x1,x2,x3]) (m:=[x0,x0,x0,x0]) z;have:x0=0\/x0=1:=by lia
      rcases this with rfl|rfl
      ·exact .inl ‹_›
      ·exact .inr ‹_›
     ·rintro (z|z)<;>(cases z;rfl)
    rw[e];exact q _ ((qb0 hp).trans (qb0 jQ))
   ·have h2:¬x0<2:=λz=>hc (Zq (by lia));have e:decide (qF2 [x0,x1,x2,x3])=false:=Zp (by
     rintro (z|z)<;>(cases z;lia))
    have:=q H (Same.refl H);rw[e] at this;exact this
end
end Pr
namespace Qf
theorem xi6(l:List Nat)(a:Nat):mx (l++[a])=max (mx l) a:=by
 induction l with
 |nil=>show max a 0=max 0 a;lia
 |cons b l ih=>show max b (mx (l++[a]))=max (max b (mx l)) a;rw[ih];lia
theorem q05(l:List Nat):∀k,k<l.length->L2.best (l.map λn:Nat=>(n:Int)) k=(mx (l.take (k+1)):Nat)
 |0,h=>by
  cases l with
  |nil=>simp at h
  |cons a l=>show ((a:Nat):Int)=((max a 0:Nat):Int);simp
 |k+1,h=>by
  have ih:=q05 l k (by lia);have e:(l.map λn:Nat=>(n:Int)).getD (k+1) 0=((l[k+1]:Nat):Int):=by simp[List.getD,h]
  have t:l.take (k+1+1)=l.take (k+1)++[l[k+1]]:=by rw[Y8 h]
  unfold L2.best;rw[e,ih,t,xi6];split<;>lia
theorem q84{l:List Nat}(h:l≠[]):L2.best (l.map λn:Nat=>(n:Int)) ((l.map λn:Nat=>(n:Int)).length-1)=(mx l:Nat):=by
 have hl:0<l.length:=List.length_pos_iff.mpr h;rw[Ze,q05 l (l.length-1) (by lia),show l.length-1+1=l.length by lia,YS]
theorem q06{rows:List Row}{i:Nat}{r:Row}(h:rows[i]?=some r):deps (rows.take (i+1))=deps (rows.take i)++[1+mx (r.map (dp (rows.take i)))]:=by
 have hl:=(gS_ h).1;have he:=(gS_ h).2;rw[<- qm8,<- he,Y8 hl]
theorem xd4{rows:List Row}{x:Nat}(h:x<rows.length+2):(deps rows)[x]?=some (dp rows x):=by
 unfold dp;rw[ZD];have:x<(deps rows).length:=by rw[qm9];exact h
 rw[Zd this];rfl
end Qf
namespace Pr
open PySem L2 Qf
theorem qh6{xs ys:List V}(hl:xs.length=ys.length)(h:∀(i:Nat) x,xs[i]?=some x->ys[i]?=some x):xs=ys:=by
 refine W2 λi=>?_;cases e:xs[i]? with
 |some x=>exact (h i x e).symm
 |none=>
  have:xs.length<=i:=List.getElem?_eq_none_iff.mp e;exact (YW (by lia)).symm
section
variable{P:Program}{w:World}{K:PySem.W.Frag}{mg:Str->Option Value}{base:Heap}
theorem scDeps:FnScope ["rows", "depths", "row"] ["rows"] (qa5 qZ8):=qd4
inductive spDeps_(vs:List V)(H:Hp)(Q:VK):Prop
 |mk(p:Addr)(rows:List Row)(e0:vs=[.ref p])(e1:RowsAt H p rows)(e2:qb3 rows)(e3:rows.length<=900)(e4:∀H' D,Same H H'->H' D=some (.lst (vN (deps rows)))->Q (.ref D) H')
def xd5:Sp:=λvs H Q _=>spDeps_ vs H Q
theorem xi7{f:Addr}{fd:FuncData}(F:Fun K "depths_of" "depths_of" qZ8 f fd)(B:Blt mg):FnOk P w K mg base CX0 1 f fd ["rows"] xd5:=by
 refine F.ok scDeps (λvs H Q E h=>?_) (λcdv A outer s H vs Q E hr h=>?_)
 ·obtain⟨p,rows,rfl,_⟩:=h
  rfl
 ·obtain⟨p,rows,rfl,hR,ok,hn,q⟩:=h;refine⟨_,qc2 (psN 1 scDeps.nd (qk8 (qa0 qa3 (qa0 qa3 qa2))))
   (qc2 (qh0 Z0 rfl (qt3 (pv 0)) (pgN 2 scDeps.nd)
    (qa9 (ql0 (xg4 Wb XR XS qm2 (pv 1) (qa0 (qa6 qb5 qa3 (qa8 (qZ3 rfl) (by rfl) B.max Wm
     (qa0 (qh5 ["rows", "depths", "row"] (qa5 qZ8) rfl rfl rfl scDeps.nd (qt3 (pv 2)) (λcl C fp s₀ H₀=>pxN (ixL K rfl) (pv 2) (pv 0))) qa2))) qa2)))))
   (qa9 (qb1 (pv 1)))),?_⟩
  refine⟨(by show 2<=sizeLine;decide),λD hD=>?_⟩;obtain⟨bs,hp,j2,j6⟩:=id hR;have v0:=qb4 (u:=.lst [.int 0,.int 0]) hp hD;have jH:(bs.map V.ref).length=rows.length:=by rw[Ze];exact j2
  refine⟨_,rfl,p,rfl,⟨_,SqT.of v0⟩,qz1 (K:=K) (a:=p) (xs:=bs.map V.ref) (λi σ H2=>Same H H2/\H2 D=some (.lst (vN (deps (rows.take i))))/\∃v2,σ=[some (.ref p),some (.ref D),v2])
   ⟨qb0 hD,qa1,none,rfl⟩ (λi σ H2 _ ⟨s2,_⟩=>SqT.of (s2 _ _ hp)) ?_ ?_⟩
  ·rintro i y σ H2 hy ⟨s2,jD,v2,rfl⟩;have hi:i<rows.length:=by rw[<- jH];exact (gS_ hy).1
   rw[Zg] at hy;obtain⟨b,hb,rfl⟩:=Zl.mp hy;have j8:rows[i]?=some rows[i]:=by simp[hi]
   have jV:=s2 _ _ (j6 i b rows[i] hb j8);have rk:=ok i _ j8;have tl:(rows.take i).length=i:=by rw[YO];lia
   have jZ:∀x,x<i+2->(deps (rows.take i))[x]?=some (dp (rows.take i) x):=λx hx=>xd4 (by rw[tl];exact hx);generalize rows[i]=r at j8 jV rk;refine⟨_,rfl,.inl ⟨rfl,_,SqL.of jD⟩,_,rfl,b,rfl,⟨_,SqT.of jV⟩,λD2 k6=>qg1 k6 (λj z _=>∃x,r[j]?=some x/\z=.int (dp (rows.take i) x:Nat)) (qk0 (K:=K) jV) (by rw[qg5,rk.1];decide) (λ_ _ _ _ _ _ h=>h) ?_ ?_⟩
   ·intro j x H3 hj hx s3 Q' hq;obtain⟨m,hm,rfl⟩:=qv2 hx;have j5:=rk.2 m (Zy hm);exact⟨_,rfl,_,rfl,D,_,(m:Int),.int (dp (rows.take i) m:Nat),rfl,rfl,SqL.of (s3 _ _ jD),xd2 (jZ m j5),hq _ _ (Same.refl _) ⟨m,hm,rfl⟩⟩
   ·intro ys H3 s3 kD jO jN;have ey:ys=(r.map (dp (rows.take i))).map (λn:Nat=>V.int (n:Int)):=by
     refine qh6 (by rw[jO,qg5,Ze,Ze]) λj x hx=>?_;obtain⟨m,hm,rfl⟩:=jN j x hx;rw[Zg,Zg,hm];rfl
    have e2:ys=((r.map (dp (rows.take i))).map (λn:Nat=>(n:Int))).map V.int:=ey.trans (qv3 _);have jB:r.map (dp (rows.take i))≠[]:=λz=>by
     have:=ZQ List.length z;rw[Ze,rk.1] at this;cases this
    refine⟨D2,(r.map (dp (rows.take i))).map (λn:Nat=>(n:Int)),rfl,e2▸kD,λz=>jB (List.map_eq_nil_iff.mp z),_,_,rfl,rfl,?_⟩;rw[q84 jB];have jR:=s3 _ _ jD;refine⟨D,_,_,rfl,rfl,jR,?_,?_⟩
    ·rw[qg5,qm9,tl];exact qi6 (by lia)
    ·have nD:∀b o,H b=some o->b≠D:=λb o e=>qa4 e hD;refine⟨λb o e=>by rw[qa7 (nD b o e)];exact s3 _ _ (s2 _ _ e),?_,_,rfl⟩;rw[qa1,q06 j8];unfold vN;rw[ZE]
     rfl
  ·rintro σ H2 ⟨s2,jD,v2,rfl⟩;refine⟨_,rfl,q H2 D s2 ?_⟩;rw[jH,YS] at jD;exact jD
end
end Pr
namespace Qf
theorem q85{rows:List Row}{e:List Nat}(h:Post rows e):e.length<=rows.length:=by
 have:=h.nd.length_le_of_subset (l₂:=List.range rows.length) λp hp=>ZW.mpr (h.lt p hp);simpa using this
theorem qv4{rows:List Row}(ok:qb3 rows){d p:Nat}{r:Row}(hp:rows[p]?=some r)(hd:dp rows (p+2)<=d+1):∀(l e:List Nat),(∀q∈l,q∈r)->Post rows e->Post rows (l.foldl (dfs rows d) e)
 |[],_,_,pe=>pe
 |q::l,e,hl,pe=>by
  have hq:=hl q Zu;have j5:=(ok p r hp).2 q hq;have jF:=(gS_ hp).1;have hdq:dp rows q<=d:=by
   have:=qJ3 (ZF.mpr ⟨q,hq,rfl⟩:dp rows q∈r.map (dp rows));have e:=qF1 ok hp;lia
  exact qv4 ok hp hd l _ (λz hz=>hl z (Zn _ hz)) (qh4 ok d e q pe (by lia) hdq).1
theorem qf6{rows:List Row}(ok:qb3 rows){d p:Nat}{r:Row}(hp:rows[p]?=some r)(hd:dp rows (p+2)<=d+1){q:Nat}(hq:q∈r):q<rows.length+2/\dp rows q<=d:=by
 have j5:=(ok p r hp).2 q hq;have jF:=(gS_ hp).1;have:=qJ3 (ZF.mpr ⟨q,hq,rfl⟩:dp rows q∈r.map (dp rows));have e:=qF1 ok hp;exact⟨by lia,by lia⟩
theorem qF8{rows:List Row}(ok:qb3 rows){x:Nat}(hx:x<rows.length+2)(h:dp rows x<=0):x<2:=by
 by_cases z:x<2
 ·exact z
 ·exfalso;have hp:x-2<rows.length:=by lia
  have:=qF1 ok (qu8 hp);rw[show x-2+2=x by lia] at this;lia
end Qf
namespace Pr
open PySem L2 Qf
theorem qi0{n:Nat}(h:n<=1191000):n<sizeLine:=ZS h (by decide)
def But(e:Addr)(H H':Hp):Prop:=∀b o,H b=some o->b≠e->H' b=some o
theorem But.refl(e:Addr)(H:Hp):But e H H:=λ_ _ h _=>h
theorem But.trans{e:Addr}{H H1 H2:Hp}(a:But e H H1)(b:But e H1 H2):But e H H2:=λc o h n=>b c o (a c o h n) n
theorem But.upd{e:Addr}{H:Hp}{o:HO}:But e H (upd H e o):=λb u h n=>by rw[qa7 n];exact h
theorem But.of{e:Addr}{H H':Hp}(h:Same H H'):But e H H':=λb o q _=>h b o q
theorem But.tups{e:Addr}{H H':Hp}(h:But e H H'){o:HO}(he:H e=some o)(no:∀u,o≠.tup u):Tups H H':=λb u q=>h b _ q λz=>by
 subst z;rw[q] at he;exact no u (ZC he).symm
def eK(es:List Nat):List (Key×V):=es.map λp:Nat=>(Sum.inl (p:Int),V.bl true)
theorem xd6(es:List Nat)(p:Nat):(valV (eK es) (Sum.inl (p:Int))).isSome=decide (p∈es):=by
 rw[<- qe2];unfold eK;rw[List.any_map];by_cases h:p∈es
 ·rw[Zq h,Z2];exact⟨p,h,by simp⟩
 ·rw[Zp h,WV];intro q hq;simp only[Function.comp,decide_eq_true_eq];intro z;have:(q:Int)=p:=Xi z;exact h (by rw[<- Int.ofNat.inj this];exact hq)
theorem xq1{es:List Nat}{p:Nat}(h:p∉es):putK (eK es) (Sum.inl (p:Int)) (.bl true)=eK (es++[p]):=by
 unfold putK;have:=xd6 es p;rw[<- qe2,Zp h] at this;rw[Zh (by rw[this];decide)];unfold eK;rw[ZE];rfl
section
variable{P:Program}{w:World}{K:PySem.W.Frag}{mg:Str->Option Value}{base:Heap}
theorem scEnd:FnScope ["rows", "number", "ended", "quarter"] ["rows", "number", "ended"] (qa5 sEnd):=qd4
inductive spEnd_(d:Nat)(vs:List V)(H:Hp)(Q:VK):Prop
 |mk(p e:Addr)(x:Nat)(rows:List Row)(es:List Nat)(e0:vs=[.ref p,.int (x:Nat),.ref e])(e1:RowsS H p rows)(e2:qb3 rows)(e3:rows.length<=1190900)(e4:x<rows.length+2)(e5:dp rows x<=d)(e6:Post rows es)(e7:H e=some (.dK (eK es)))(e8:∀H',But e H H'->H' e=some (.dK (eK (dfs rows d es x)))->Q .non H')
def xq2(d:Nat):Sp:=λvs H Q _=>spEnd_ d vs H Q
theorem xq3{f:Addr}{fd:FuncData}(F:Fun K "end_rows" "end_rows" sEnd f fd)(T:Cst mg)(hE:mg "end_rows" = some (.ref f))(bE:Binds K fd ["rows", "number", "ended"] []):∀d,FnOk P w K mg base CX0 (d+1) f fd ["rows", "number", "ended"] (xq2 d):=by
 obtain⟨tf,hf⟩:=T.first;intro d
 induction d with
 |zero=>
  refine F.ok scEnd (λvs H Q E h=>?_) (λcdv A outer s H vs Q E hr h=>?_)
  ·obtain⟨p,e,x,rows,es,rfl,_⟩:=h
   rfl
  ·obtain⟨p,e,x,rows,es,rfl,hR,ok,hn,hx,hd,pe,he,q⟩:=h;have hu:A.units+3+1<cLine:=by have:=hr.un;exact ZS (Xh _ _) (show A.units+3+1+199<cLine from by simpa using this)
   have x2:=qF8 ok hx hd;refine⟨_,qc2 (qe5 (qt2 (qb8 qp0 (pv 1) (qc5 (v:=.int 2) (by rfl) hf ⟨_,rfl⟩) (qb6 _)) (qk7 (qT7 (qD9 hu (qa6 qc9 (pv 1) (qc5 (v:=.int 2) (by rfl) hf ⟨_,rfl⟩)) (pv 2))))).pt (qa9 qT8) qb7) qi4,?_⟩;refine⟨_,rfl,_,_,rfl,rfl,_,rfl,?_⟩;rw[Zq (show (x:Int)<2 by lia)];exact iteT (iteT (q H (But.refl e H) he))
 |succ d ih=>
  refine F.ok scEnd (λvs H Q E h=>?_) (λcdv A outer s H vs Q E hr h=>?_)
  ·obtain⟨p,e,x,rows,es,rfl,_⟩:=h
   rfl
  ·obtain⟨p,e,x,rows,es,rfl,hR,ok,hn,hx,hd,pe,he,q⟩:=h;have hu:A.units+3+1<cLine:=by have:=hr.un;exact ZS (Xh _ (16*(d+1)+199)) (show A.units+3+1+(16*(d+1)+199)<cLine from by
    have h2:A.units+3+16*(d+1)+200<cLine:=this;lia)
   refine⟨_,qc2 (qe5 (qt2 (qb8 qp0 (pv 1) (qc5 (v:=.int 2) (by rfl) hf ⟨_,rfl⟩) (qb6 _)) (qk7 (qT7 (qD9 hu (qa6 qc9 (pv 1) (qc5 (v:=.int 2) (by rfl) hf ⟨_,rfl⟩)) (pv 2))))).pt (qa9 qT8) qb7)
    (qc2 (qh0 Z0 rfl (qt3 (pxN (ixS K rfl) (pv 0) (qa6 qc9 (pv 1) (qc5 (v:=.int 2) (by rfl) hf ⟨_,rfl⟩)))) (pgN 3 scEnd.nd)
     (qa9 (ql0 (pcN ih hr hE F.kp bE (qa0 (pv 0) (qa0 (pv 3) (qa0 (pv 2) qa2)))))))
    (qa9 (qp2 hu (pv 2) (qa6 qc9 (pv 1) (qc5 (v:=.int 2) (by rfl) hf ⟨_,rfl⟩)) qk6 (by rfl)))),?_⟩
   refine⟨_,rfl,_,_,rfl,rfl,_,rfl,?_⟩;unfold dfs at q;refine ite2 (λhc=>?_) (λhc=>?_)
   ·have x2:x<2:=by have:=ZG hc;lia
    rw[Zm (.inl x2)] at q;exact iteT (q H (But.refl e H) he)
   ·have x2:¬x<2:=λz=>hc (Zq (by lia));have ex:(x:Int)-2=((x-2:Nat):Int):=by lia
    have dg:DGet H e (.int ((x:Int)-2)) (valV (eK es) (Sum.inl ((x-2:Nat):Int))):=by rw[ex];exact DGet.k (k:=Sum.inl ((x-2:Nat):Int)) he
    refine⟨_,rfl,_,_,rfl,rfl,_,rfl,e,_,rfl,dg,_,rfl,?_⟩;rw[xd6];refine ite2 (λhm=>?_) (λhm=>?_)
    ·rw[Zm (.inr (ZG hm))] at q;exact q H (But.refl e H) he
    ·have hnm:x-2∉es:=λz=>hm (Zq z);rw[Zh (by rintro (z|z);exact x2 z;exact hnm z)] at q;have j5:x-2<rows.length:=by lia
     have hg:=qu8 j5;generalize rows.getD (x-2) []=r at q hg;obtain⟨bs,hp,j2,j6⟩:=id hR;have jY:dp rows (x-2+2)<=d+1:=by rw[show x-2+2=x by lia];exact hd
     have kO:bs[x-2]?=some (bs[x-2]'(by lia)):=by simp[show x-2<bs.length by lia]
     have jV:=j6 (x-2) _ r kO hg;have nbe:∀b∈bs,b≠e:=λb hb z=>by
      obtain⟨j,hj,ej⟩:=ZI.mp hb;have:=j6 j b (rows[j]'(by lia)) (by rw[Zd hj,ej]) (Zd (by lia));rw[z,he] at this;cases this
     have npe:p≠e:=λz=>by
      rw[z,he] at hp;rcases hp with hp|hp<;>cases hp
     have hRm:∀H2,But e H H2->RowsS H2 p rows:=λH2 s2=>⟨bs,hp.imp (λh=>s2 _ _ h npe) (λh=>s2 _ _ h npe),j2,λi b r e1 e2=>s2 _ _ (j6 i b r e1 e2) (nbe b (Zy e1))⟩;have ixx:∀Q':VK,Q' (.ref (bs[x-2]'(by lia))) H->rIxS K (.ref p) (.int ((x:Int)-2)) H Q':=λQ' hQ=>by
      rcases hp with h|h
      ·exact .inr ⟨p,_,((x-2:Nat):Int),.ref (bs[x-2]'(by lia)),rfl,ZQ V.int ex,SqT.of h,qg7 (by rw[Zg,kO];rfl),hQ⟩
      ·exact .inl ⟨p,_,((x-2:Nat):Int),.ref (bs[x-2]'(by lia)),rfl,ZQ V.int ex,SqL.of h,qg7 (by rw[Zg,kO];rfl),hQ⟩
     refine⟨_,rfl,_,rfl,_,_,rfl,rfl,ixx _ ⟨_,rfl,⟨_,SqT.of jV⟩,
      qz1 (K:=K) (xs:=vN r) (λi σ H2=>But e H H2/\H2 e=some (.dK (eK ((r.take i).foldl (dfs rows d) es)))/\∃v3,σ=[some (.ref p),some (.int (x:Nat)),some (.ref e),v3])
      ⟨But.refl e H,he,none,rfl⟩ (λi σ H2 _ ⟨s2,_⟩=>SqT.of (s2.tups he (λu z=>by cases z) _ _ jV)) ?_ ?_⟩⟩
     ·rintro i y σ H2 hy ⟨s2,k9,v3,rfl⟩;obtain⟨m,hm,rfl⟩:=qv2 hy;have hq:=Zy hm;obtain⟨b1,b2⟩:=qf6 ok hg jY hq;refine⟨_,rfl,_,rfl,_,rfl,p,e,m,rows,(r.take i).foldl (dfs rows d) es,rfl,hRm H2 s2,ok,hn,b1,b2,qv4 ok hg jY _ es (λz hz=>List.mem_of_mem_take hz) pe,k9,λH3 s3 vM=>⟨s2.trans s3,?_,_,rfl⟩⟩;have hml:=(gS_ hm).1;have hme:=(gS_ hm).2;rw[<- Y8 hml,Xw,hme];exact vM
     ·rintro σ H2 ⟨s2,k9,v3,rfl⟩;rw[qg5,YS] at k9;have pf:=qv4 ok hg jY r es (λz hz=>hz) pe;have fin:=(qh4 ok (d+1) es x pe hx hd).1;unfold dfs at fin;rw[Zh (by rintro (z|z);exact x2 z;exact hnm z)] at fin;have eg:rows.getD (x-2) []=r:=by
       rw[ZD,hg];rfl
      rw[eg] at fin;have hni:x-2∉r.foldl (dfs rows d) es:=λz=>by
       have:=(Xy.mp fin.nd).2.2 (x-2) z (x-2) (by simp);exact this rfl
      have dq:DPut H2 e (.int ((x:Int)-2)) (.bl true) (upd H2 e (.dK (eK (r.foldl (dfs rows d) es++[x-2])))):=by
       rw[ex,<- xq1 hni];refine DPut.k (k:=Sum.inl ((x-2:Nat):Int)) k9 ?_;unfold eK;rw[Ze];exact qi0 (by have:=q85 pf;lia)
      exact⟨_,rfl,_,rfl,_,_,rfl,rfl,e,_,rfl,dq,q _ (s2.trans But.upd) qa1⟩
theorem scPlaces:FnScope ["rows", "top", "ended"] ["rows", "top"] (qa5 qA4):=qd4
inductive spPlaces_(d:Nat)(vs:List V)(H:Hp)(Q:VK):Prop
 |mk(p:Addr)(x:Nat)(rows:List Row)(e0:vs=[.ref p,.int (x:Nat)])(e1:RowsS H p rows)(e2:qb3 rows)(e3:rows.length<=1190900)(e4:x<rows.length+2)(e5:dp rows x<=d)(e6:∀H' D,Same H H'->H' D=some (.lst (vN (dfs rows d [] x)))->Q (.ref D) H')
def qA8(d:Nat):Sp:=λvs H Q _=>spPlaces_ d vs H Q
theorem q07{f fE:Addr}{fd fdE:FuncData}(F:Fun K "places_as_ended" "places_as_ended" qA4 f fd)(B:Blt mg)(T:Cst mg)(hE:mg "end_rows" = some (.ref fE))(FE:Fun K "end_rows" "end_rows" sEnd fE fdE)(bE:Binds K fdE ["rows", "number", "ended"] [])(d:Nat):FnOk P w K mg base CX0 (d+2) f fd ["rows", "top"] (qA8 d):=by
 have GE:FnOk P w K mg base CX0 (d+1) fE fdE ["rows", "number", "ended"] (xq2 d):=xq3 FE T hE bE d;refine F.ok scPlaces (λvs H Q E h=>?_) (λcdv A outer s H vs Q E hr h=>?_)
 ·obtain⟨p,x,rows,rfl,_⟩:=h
  rfl
 ·obtain⟨p,x,rows,rfl,hR,ok,hn,hx,hd,q⟩:=h;refine⟨_,qc2 (psN 2 scPlaces.nd q77)
   (qc2 (ql0 (pcN GE hr hE FE.kp bE (qa0 (pv 0) (qa0 (pv 1) (qa0 (pv 2) qa2)))))
   (qa9 (qb1 (qc3 (qR0 rfl) (by rfl) B.list PyProof.Rows.boot_list (qa0 (pv 2) qa2))))),?_⟩
  refine λe he=>⟨_,rfl,_,rfl,_,rfl,p,e,x,rows,[],rfl,hR.same (qb0 he),ok,hn,hx,hd,qs1 rows,qa1,λH2 s2 k9=>?_⟩;refine⟨_,rfl,e,_,rfl,k9,λl hl=>q _ l ?_ ?_⟩
  ·intro b o z;have nb:b≠e:=qa4 z he;exact qb4 (s2 b o (qb4 z he) nb) hl
  ·rw[qa1];unfold eK vN;rw[Y4]
   rfl
end
end Pr
namespace Qf
inductive Tr
 |z|o|nd (a b c d:Tr) deriving DecidableEq
namespace Tr
def kids:Tr->List Tr
 |nd a b c d=>[a,b,c,d]
 |_=>[]
def dep:Tr->Nat
 |nd a b c d=>1+mx [dep a,dep b,dep c,dep d]
 |_=>0
def Red:Tr->Prop
 |nd a b c d=>¬(a=z/\b=z/\c=z/\d=z)/\¬(a=o/\b=o/\c=o/\d=o)/\Red a/\Red b/\Red c/\Red d
 |_=>True
def post:Tr->List Tr->List Tr
 |nd a b c d,e=>if nd a b c d∈e then e else post d (post c (post b (post a e)))++[nd a b c d]
 |_,e=>e
def In(L:List Tr)(t:Tr):Prop:=t=z\/t=o\/t∈L
theorem In.app{L s:List Tr}{t:Tr}(h:In L t):In (L++s) t:=h.imp id λh=>h.imp id λh=>Xz _ h
structure Ord(L:List Tr):Prop where
 nd:L.Nodup
 ch:∀(i:Nat) t,L[i]?=some t->(∃a b c d,t=.nd a b c d)/\∀s∈kids t,s=z\/s=o\/∃j:Nat,j<i/\L[j]?=some s
theorem ord_nil:Ord []:=⟨YT,λi t h=>by simp at h⟩
theorem post_ext:∀(t:Tr)(e:List Tr),∃s,post t e=e++s
 |z,e=>⟨[],by simp[post]⟩
 |o,e=>⟨[],by simp[post]⟩
 |nd a b c d,e=>by
  unfold post;split
  ·exact⟨[],by simp⟩
  ·obtain⟨s1,h1⟩:=post_ext a e;obtain⟨s2,h2⟩:=post_ext b (post a e);obtain⟨s3,h3⟩:=post_ext c (post b (post a e));obtain⟨s4,h4⟩:=post_ext d (post c (post b (post a e)));exact⟨s1++s2++s3++s4++[nd a b c d],by rw[h4,h3,h2,h1];simp⟩
theorem In.post{L:List Tr}{t:Tr}(s:Tr)(h:In L t):In (post s L) t:=by
 obtain⟨u,e⟩:=post_ext s L;rw[e];exact h.app
theorem qf3:∀(t:Tr)(e:List Tr)(s:Tr),s∈post t e->s∈e\/sizeOf s<=sizeOf t
 |z,e,s,h=>.inl h
 |o,e,s,h=>.inl h
 |nd a b c d,e,s,h=>by
  unfold post at h;split at h
  ·exact .inl h
  ·have sz:sizeOf (nd a b c d)=1+sizeOf a+sizeOf b+sizeOf c+sizeOf d:=by simp
   rcases Yi.mp h with h|h
   ·rcases qf3 d _ s h with h|h
    ·rcases qf3 c _ s h with h|h
     ·rcases qf3 b _ s h with h|h
      ·rcases qf3 a _ s h with h|h
       ·exact .inl h
       ·exact .inr (by lia)
      ·exact .inr (by lia)
     ·exact .inr (by lia)
    ·exact .inr (by lia)
   ·have:s=nd a b c d:=by simpa using h
    rw[this];exact .inr (Zf _)
theorem not_below{a b c d:Tr}{e:List Tr}(h:nd a b c d∉e):nd a b c d∉post d (post c (post b (post a e))):=λh2=>by
 have sz:sizeOf (nd a b c d)=1+sizeOf a+sizeOf b+sizeOf c+sizeOf d:=by simp
 rcases qf3 d _ _ h2 with h2|h2
 ·rcases qf3 c _ _ h2 with h2|h2
  ·rcases qf3 b _ _ h2 with h2|h2
   ·rcases qf3 a _ _ h2 with h2|h2
    ·exact h h2
    ·lia
   ·lia
  ·lia
 ·lia
theorem post_ord:∀(t:Tr)(e:List Tr),Ord e->Ord (post t e)/\In (post t e) t
 |z,e,h=>⟨h,.inl rfl⟩
 |o,e,h=>⟨h,.inr (.inl rfl)⟩
 |nd a b c d,e,h=>by
  unfold post;split
  ·rename_i hm;exact⟨h,.inr (.inr hm)⟩
  ·rename_i hm;obtain⟨o1,i1⟩:=post_ord a e h;obtain⟨o2,i2⟩:=post_ord b _ o1;obtain⟨o3,i3⟩:=post_ord c _ o2;obtain⟨o4,i4⟩:=post_ord d _ o3;have i1:=((i1.post b).post c).post d;have i2:=(i2.post c).post d;have i3:=i3.post d;have nb:=not_below hm;generalize post d (post c (post b (post a e)))=L at o4 i1 i2 i3 i4 nb;refine⟨⟨?_,?_⟩,.inr (.inr (by simp))⟩
   ·rw[Xy];exact⟨o4.nd,by simp,λx hx y hy e=>nb (by
     have:y=nd a b c d:=by simpa using hy
     rw[<- this,<- e];exact hx)⟩
   ·intro i t ht;by_cases hi:i<L.length
    ·rw[Zo hi] at ht;obtain⟨h1,h2⟩:=o4.ch i t ht;refine⟨h1,λs hs=>(h2 s hs).imp id λh=>h.imp id λ⟨j,hj,e⟩=>⟨j,hj,?_⟩⟩;rw[Zo (by lia)];exact e
    ·have j2:=(gS_ ht).1;rw[Zi] at j2;have jW:i=L.length:=by simp at j2;lia
     subst jW;have et:t=nd a b c d:=by simpa using ht.symm
     subst et;refine⟨⟨a,b,c,d,rfl⟩,λs hs=>?_⟩;have kK:In L s:=by
      have:s=a\/s=b\/s=c\/s=d:=by simpa [kids] using hs
      rcases this with rfl|rfl|rfl|rfl<;>assumption
     refine kK.imp id λh=>h.imp id λhm=>?_;obtain⟨j,hj,e⟩:=ZI.mp hm;exact⟨j,hj,by rw[Zo hj,Zd hj,e]⟩
def name(L:List Tr):Tr->Nat
 |z=>0
 |o=>1
 |t=>L.idxOf t+2
def rowsOf(L:List Tr):List Row:=L.map λt=>(kids t).map (name L)
theorem qv5(L:List Tr)(a b c d:Tr):name L (.nd a b c d)=L.idxOf (.nd a b c d)+2:=rfl
theorem name_at{L:List Tr}(h:Ord L){i:Nat}{t:Tr}(e:L[i]?=some t):name L t=i+2:=by
 obtain⟨⟨a,b,c,d,rfl⟩,_⟩:=h.ch i t e;rw[qv5];congr 1;have hl:=(gS_ e).1;have he:=(gS_ e).2;rw[<- he];exact h.nd.idxOf_getElem i hl
theorem qj1{L:List Tr}(h:Ord L){t:Tr}(hi:In L t):(t=z/\name L t=0)\/(t=o/\name L t=1)\/∃i:Nat,L[i]?=some t/\name L t=i+2:=by
 rcases hi with rfl|rfl|hm
 ·exact .inl ⟨rfl,rfl⟩
 ·exact .inr (.inl ⟨rfl,rfl⟩)
 ·obtain⟨j,hj,e⟩:=ZI.mp hm;have e':L[j]?=some t:=by rw[Zd hj,e]
  exact .inr (.inr ⟨j,e',name_at h e'⟩)
theorem q86{L:List Tr}(h:Ord L){s t:Tr}(hs:In L s)(ht:In L t)(e:name L s=name L t):s=t:=by
 rcases qj1 h hs with ⟨rfl,e1⟩|⟨rfl,e1⟩|⟨i,e0,e1⟩
 ·rcases qj1 h ht with ⟨rfl,e2⟩|⟨rfl,e2⟩|⟨j,e3,e2⟩
  ·rfl
  ·lia
  ·lia
 ·rcases qj1 h ht with ⟨rfl,e2⟩|⟨rfl,e2⟩|⟨j,e3,e2⟩
  ·lia
  ·rfl
  ·lia
 ·rcases qj1 h ht with ⟨rfl,e2⟩|⟨rfl,e2⟩|⟨j,e3,e2⟩
  ·lia
  ·lia
  ·have:i=j:=by lia
   subst this;rw[e0] at e3;exact ZC e3
theorem name_app{L s:List Tr}{t:Tr}(h:In L t)(hz:Ord L):name (L++s) t=name L t:=by
 rcases qj1 hz h with ⟨rfl,_⟩|⟨rfl,_⟩|⟨i,e,_⟩
 ·rfl
 ·rfl
 ·obtain⟨⟨a,b,c,d,rfl⟩,_⟩:=hz.ch i t e;rw[qv5,qv5,List.idxOf_append,Zm (Zy e)]
theorem kid_in{L:List Tr}(h:Ord L){i:Nat}{t s:Tr}(e:L[i]?=some t)(hs:s∈kids t):In L s/\name L s<i+2:=by
 rcases (h.ch i t e).2 s hs with rfl|rfl|⟨j,hj,e2⟩
 ·exact⟨.inl rfl,by show 0<_;lia⟩
 ·exact⟨.inr (.inl rfl),by show 1<_;lia⟩
 ·exact⟨.inr (.inr (Zy e2)),by rw[name_at h e2];lia⟩
theorem rowsOf_len(L:List Tr):(rowsOf L).length=L.length:=by simp[rowsOf]
theorem rowsOf_at{L:List Tr}{i:Nat}{t:Tr}(e:L[i]?=some t):(rowsOf L)[i]?=some ((kids t).map (name L)):=by
 unfold rowsOf;rw[Zg,e];rfl
theorem qp3{L:List Tr}{i:Nat}{r:Row}(e:(rowsOf L)[i]?=some r):∃t,L[i]?=some t/\r=(kids t).map (name L):=by
 unfold rowsOf at e;rw[Zg] at e;obtain⟨t,h1,h2⟩:=Zl.mp e;exact⟨t,h1,h2.symm⟩
theorem qv6{L:List Tr}(h:Ord L):qb3 (rowsOf L):=λp r hp=>by
 obtain⟨t,ht,rfl⟩:=qp3 hp;obtain⟨⟨a,b,c,d,rfl⟩,_⟩:=h.ch p t ht;refine⟨rfl,λx hx=>?_⟩;obtain⟨s,hs,rfl⟩:=ZF.mp hx;exact (kid_in h ht hs).2
theorem qj2{L:List Tr}(h:Ord L):∀{k l:List Tr},(∀s∈k,In L s)->(∀s∈l,In L s)->k.map (name L)=l.map (name L)->k=l
 |[],[],_,_,_=>rfl
 |[],_::_,_,_,e=>by simp at e
 |_::_,[],_,_,e=>by simp at e
 |a::k,b::l,h1,h2,e=>by
  simp only[Zz,Xn] at e;rw[q86 h (h1 a Zu) (h2 b Zu) e.1,qj2 h (λs hs=>h1 s (Zn _ hs)) (λs hs=>h2 s (Zn _ hs)) e.2]
theorem qN0{s t:Tr}(hs:∃a b c d,s=.nd a b c d)(ht:∃a b c d,t=.nd a b c d)(e:kids s=kids t):s=t:=by
 obtain⟨a,b,c,d,rfl⟩:=hs;obtain⟨a',b',c',d',rfl⟩:=ht;simpa [kids] using e
theorem qr5{L:List Tr}(h:Ord L):(rowsOf L).Nodup:=by
 rw[nd_iff];intro i j vB hj e;rw[rowsOf_len] at hj;have ei:L[i]?=some L[i]:=Zd (by lia);have ej:L[j]?=some L[j]:=Zd hj;rw[rowsOf_at ei,rowsOf_at ej] at e;have:=qN0 (h.ch i _ ei).1 (h.ch j _ ej).1 (qj2 h (λs hs=>(kid_in h ei hs).1) (λs hs=>(kid_in h ej hs).1) (ZC e));have h2:=nd_iff.mp h.nd i j vB hj;rw[ei,ej] at h2;exact h2 (by rw[this])
end Tr
open Tr
def tr(rows:List Row):Nat->Nat->Tr
 |0,x=>if x=1 then .o else .z
 |d+1,x=>if x=0 then .z else if x=1 then .o else .nd (tr rows d ((rows.getD (x-2) []).getD 0 0)) (tr rows d ((rows.getD (x-2) []).getD 1 0)) (tr rows d ((rows.getD (x-2) []).getD 2 0)) (tr rows d ((rows.getD (x-2) []).getD 3 0))
theorem qv7(rows:List Row)(d:Nat):tr rows d 0=.z:=by cases d<;>rfl
theorem qF9(rows:List Row)(d:Nat):tr rows d 1=.o:=by cases d<;>rfl
theorem qv8{r:Row}(h:r.length=4):∃a b c d,r=[a,b,c,d]:=by
 match r,h with
 |[a,b,c,d],_=>exact⟨a,b,c,d,rfl⟩
theorem q08{rows:List Row}{d p a b c e:Nat}(hp:rows[p]?=some [a,b,c,e]):tr rows (d+1) (p+2)=.nd (tr rows d a) (tr rows d b) (tr rows d c) (tr rows d e):=by
 have:rows.getD p []=[a,b,c,e]:=by rw[ZD,hp];rfl
 show (if p+2=0 then _ else if p+2=1 then _ else _)=_;rw[Zh (by lia),Zh (by lia),show p+2-2=p by lia,this]
 rfl
theorem qr6{rows:List Row}(ok:qb3 rows){x:Nat}(hx:x<rows.length+2)(h:¬x<2):∃p a b c d,x=p+2/\rows[p]?=some [a,b,c,d]:=by
 have hp:x-2<rows.length:=by lia
 have hg:rows[x-2]?=some rows[x-2]:=Zd hp;obtain⟨a,b,c,d,e⟩:=qv8 (ok _ _ hg).1;exact⟨x-2,a,b,c,d,by lia,by rw[hg,e]⟩
theorem qn1{rows:List Row}(ok:qb3 rows):∀(d d' x:Nat),dp rows x<=d->dp rows x<=d'->x<rows.length+2->tr rows d x=tr rows d' x:=by
 intro d
 induction d with
 |zero=>
  intro d' x h1 h2 hx;have x2:=qF8 ok hx h1
  match x,x2 with
  |0,_=>rw[qv7,qv7]
  |1,_=>rw[qF9,qF9]
 |succ d ih=>
  intro d' x h1 h2 hx;by_cases x2:x<2
  ·match x,x2 with
   |0,_=>rw[qv7,qv7]
   |1,_=>rw[qF9,qF9]
  ·obtain⟨p,a,b,c,e,rfl,hp⟩:=qr6 ok hx x2
   match d',h2 with
   |0,h2=>exact absurd (qF8 ok hx h2) x2
   |d'+1,h2=>
    have q:=λy (hy:y∈[a,b,c,e])=>qf6 ok hp h1 hy;have q':=λy (hy:y∈[a,b,c,e])=>qf6 ok hp h2 hy;rw[q08 hp,q08 hp,ih d' a (q a (by simp)).2 (q' a (by simp)).2 (q a (by simp)).1,ih d' b (q b (by simp)).2 (q' b (by simp)).2 (q b (by simp)).1,ih d' c (q c (by simp)).2 (q' c (by simp)).2 (q c (by simp)).1,ih d' e (q e (by simp)).2 (q' e (by simp)).2 (q e (by simp)).1]
def T(rows:List Row)(x:Nat):Tr:=tr rows (dp rows x) x
theorem qf1(rows:List Row):T rows 0=.z:=qv7 _ _
theorem qh7(rows:List Row):T rows 1=.o:=qF9 _ _
theorem qi3{rows:List Row}(ok:qb3 rows){p a b c e:Nat}(hp:rows[p]?=some [a,b,c,e]):T rows (p+2)=.nd (T rows a) (T rows b) (T rows c) (T rows e):=by
 obtain⟨d,hd⟩:∃d,dp rows (p+2)=d+1:=⟨_,by rw[qF1 ok hp];exact Vb _ _⟩;have q:=λy (hy:y∈[a,b,c,e])=>qf6 ok hp (WF hd) hy;unfold T;rw[hd,q08 hp,qn1 ok d _ a (q a (by simp)).2 (Zf _) (q a (by simp)).1,qn1 ok d _ b (q b (by simp)).2 (Zf _) (q b (by simp)).1,qn1 ok d _ c (q c (by simp)).2 (Zf _) (q c (by simp)).1,qn1 ok d _ e (q e (by simp)).2 (Zf _) (q e (by simp)).1]
theorem xx1{rows:List Row}(ok:qb3 rows)(nd:rows.Nodup):∀(d x y:Nat),dp rows x<=d->x<rows.length+2->y<rows.length+2->T rows x=T rows y->x=y:=by
 intro d;have low:∀x y,x<2->y<rows.length+2->T rows x=T rows y->x=y:=λx y x2 hy e=>by
  by_cases y2:y<2
  ·match x,y,x2,y2 with
   |0,0,_,_=>rfl
   |1,1,_,_=>rfl
   |0,1,_,_=>rw[qf1,qh7] at e;cases e
   |1,0,_,_=>rw[qf1,qh7] at e;cases e
  ·obtain⟨p,a,b,c,f,rfl,hp⟩:=qr6 ok hy y2;rw[qi3 ok hp] at e
   match x,x2 with
   |0,_=>rw[qf1] at e;cases e
   |1,_=>rw[qh7] at e;cases e
 induction d with
 |zero=>exact λx y h hx hy e=>low x y (qF8 ok hx h) hy e
 |succ d ih=>
  intro x y h hx hy e;by_cases x2:x<2
  ·exact low x y x2 hy e
  ·by_cases y2:y<2
   ·exact (low y x y2 hx e.symm).symm
   ·obtain⟨p,a,b,c,f,rfl,hp⟩:=qr6 ok hx x2;obtain⟨p',a',b',c',f',rfl,hp'⟩:=qr6 ok hy y2;rw[qi3 ok hp,qi3 ok hp'] at e;have q:=λy (hy:y∈[a,b,c,f])=>qf6 ok hp h hy;have q':∀y∈[a',b',c',f'],y<rows.length+2:=λy hy=>by
     have:=(ok _ _ hp').2 y hy;have:=(gS_ hp').1;lia
    injection e with e1 e2 e3 e4
    have h1:=ih a a' (q a (by simp)).2 (q a (by simp)).1 (q' a' (by simp)) e1;have h2:=ih b b' (q b (by simp)).2 (q b (by simp)).1 (q' b' (by simp)) e2;have h3:=ih c c' (q c (by simp)).2 (q c (by simp)).1 (q' c' (by simp)) e3;have h4:=ih f f' (q f (by simp)).2 (q f (by simp)).1 (q' f' (by simp)) e4;subst h1 h2 h3 h4;have:p=p':=by
     rcases Nat.lt_trichotomy p p' with z|z|z
     ·exact absurd (hp.trans hp'.symm) (nd_iff.mp nd p p' z (gS_ hp').1)
     ·exact z
     ·exact absurd (hp'.trans hp.symm) (nd_iff.mp nd p' p z (gS_ hp).1)
    rw[this]
def tau(rows:List Row)(p:Nat):Tr:=T rows (p+2)
theorem xi8{rows:List Row}(ok:qb3 rows)(nd:rows.Nodup){e:List Nat}(pe:Post rows e){p:Nat}(hp:p<rows.length):tau rows p∈e.map (tau rows)<->p∈e:=by
 constructor
 ·intro h;obtain⟨q,hq,e2⟩:=ZF.mp h;have:=xx1 ok nd _ (q+2) (p+2) (Zf _) (by have:=pe.lt q hq;lia) (by lia) e2;have:q=p:=by lia
  rw[<- this];exact hq
 ·exact λh=>ZF.mpr ⟨p,h,rfl⟩
theorem qN1{rows:List Row}(ok:qb3 rows)(nd:rows.Nodup):∀(d:Nat)(e:List Nat)(x:Nat),Post rows e->x<rows.length+2->dp rows x<=d->(dfs rows d e x).map (tau rows)=post (T rows x) (e.map (tau rows)):=by
 intro d
 induction d with
 |zero=>
  intro e x pe hx hd;have x2:=qF8 ok hx hd
  match x,x2 with
  |0,_=>rw[qf1];rfl
  |1,_=>rw[qh7];rfl
 |succ d ih=>
  intro e x pe hx hd;by_cases x2:x<2
  ·have:dfs rows (d+1) e x=e:=by
    show (if x<2\/x-2∈e then e else _)=e;rw[Zm (.inl x2)]
   rw[this]
   match x,x2 with
   |0,_=>rw[qf1];rfl
   |1,_=>rw[qh7];rfl
  ·obtain⟨p,a,b,c,f,rfl,hp⟩:=qr6 ok hx x2;have jF:=(gS_ hp).1;have hm:=xi8 ok nd pe jF;have hg:rows.getD p []=[a,b,c,f]:=by rw[ZD,hp];rfl
   have et:tau rows p=.nd (T rows a) (T rows b) (T rows c) (T rows f):=qi3 ok hp;rw[qi3 ok hp];show (if p+2<2\/p+2-2∈e then e else (rows.getD (p+2-2) []).foldl (dfs rows d) e++[p+2-2]).map (tau rows)=(if _∈e.map (tau rows) then _ else _);rw[show p+2-2=p by lia,<- et,hg];by_cases hpe:p∈e
   ·rw[Zm (.inr hpe),Zm (hm.mpr hpe)]
   ·rw[Zh (by rintro (z|z);lia;exact hpe z),Zh (λz=>hpe (hm.mp z))];have q:=λy (hy:y∈[a,b,c,f])=>qf6 ok hp hd hy;obtain⟨qa,qa'⟩:=q a (by simp);obtain⟨qb,qb'⟩:=q b (by simp);obtain⟨qc,qc'⟩:=q c (by simp);obtain⟨qf,qf'⟩:=q f (by simp);have p1:=(qh4 ok d e a pe qa qa').1;have p2:=(qh4 ok d _ b p1 qb qb').1;have p3:=(qh4 ok d _ c p2 qc qc').1;show (dfs rows d (dfs rows d (dfs rows d (dfs rows d e a) b) c) f++[p]).map (tau rows)=_;rw[ZE,ih _ f p3 qf qf',ih _ c p2 qc qc',ih _ b p1 qb qb',ih _ a pe qa qa',et];show _++[tau rows p]=_;rw[et]
theorem qy2{n top:Nat}{rows:List Row}(c:Canon n top rows):rows=rowsOf (post (T rows top) [])/\top=name (post (T rows top) []) (T rows top):=by
 have h:=qN1 c.rok c.unlike n [] top (qs1 rows) c.inn c.deep;rw[c.ends] at h;have hord:Ord (post (T rows top) [])/\In (post (T rows top) []) (T rows top):=post_ord _ _ ord_nil;have hpost:post (T rows top) []=(List.range rows.length).map (tau rows):=h.symm;obtain⟨ho,hi⟩:=hord;generalize post (T rows top) []=L at ho hi hpost;have lat:∀p,p<rows.length->L[p]?=some (tau rows p):=λp hp=>by
  rw[hpost,Zg,XJ hp];rfl
 have hL:L.length=rows.length:=by rw[hpost];simp
 have nmq:∀q,q<rows.length+2->name L (T rows q)=q:=λq hq=>by
  by_cases q2:q<2
  ·match q,q2 with
   |0,_=>rw[qf1];rfl
   |1,_=>rw[qh7];rfl
  ·have:=name_at ho (lat (q-2) (by lia));unfold tau at this;rw[show q-2+2=q by lia] at this;exact this
 refine⟨?_,(nmq top c.inn).symm⟩;refine W2 λp=>?_;by_cases hp:p<rows.length
 ·have hg:rows[p]?=some rows[p]:=Zd hp;obtain⟨a,b,e,f,er⟩:=qv8 (c.rok p _ hg).1;rw[er] at hg;rw[hg,rowsOf_at (lat p hp)];have et:tau rows p=.nd (T rows a) (T rows b) (T rows e) (T rows f):=qi3 c.rok hg;have lt:∀y∈[a,b,e,f],y<rows.length+2:=λy hy=>by
   have:=(c.rok _ _ hg).2 y hy;lia
  rw[et];show some [a,b,e,f]=some [name L (T rows a),name L (T rows b),name L (T rows e),name L (T rows f)];rw[nmq a (lt a (by simp)),nmq b (lt b (by simp)),nmq e (lt e (by simp)),nmq f (lt f (by simp))]
 ·rw[YW (by lia),YW (by rw[rowsOf_len];lia)]
theorem qp4{L:List Tr}(h:Ord L):∀t:Tr,In L t->dp (rowsOf L) (name L t)=dep t
 |.z,_=>qZ4 (by decide:(0:Nat)<2)
 |.o,_=>qZ4 (by decide:(1:Nat)<2)
 |.nd a b c d,hi=>by
  rcases qj1 h hi with ⟨e,_⟩|⟨e,_⟩|⟨i,e,e2⟩
  ·cases e
  ·cases e
  ·have hk:=λs (hs:s∈kids (.nd a b c d))=>(kid_in h e hs).1;rw[e2,qF1 (qv6 h) (rowsOf_at e)];show 1+mx [_,_,_,_]=1+mx [dep a,dep b,dep c,dep d];rw[qp4 h a (hk a (by simp[kids])),qp4 h b (hk b (by simp[kids])),qp4 h c (hk c (by simp[kids])),qp4 h d (hk d (by simp[kids]))]
theorem qn2{L:List Tr}(h:Ord L):∀t:Tr,In L t->T (rowsOf L) (name L t)=t
 |.z,_=>qf1 _
 |.o,_=>qh7 _
 |.nd a b c d,hi=>by
  rcases qj1 h hi with ⟨e,_⟩|⟨e,_⟩|⟨i,e,e2⟩
  ·cases e
  ·cases e
  ·have hk:=λs (hs:s∈kids (.nd a b c d))=>(kid_in h e hs).1;rw[e2,qi3 (qv6 h) (rowsOf_at e),qn2 h a (hk a (by simp[kids])),qn2 h b (hk b (by simp[kids])),qn2 h c (hk c (by simp[kids])),qn2 h d (hk d (by simp[kids]))]
def q09(L:List Tr):Prop:=∀t∈L,Red t
theorem qn3:∀(t:Tr)(e:List Tr),Red t->q09 e->q09 (post t e)
 |.z,_,_,h=>h
 |.o,_,_,h=>h
 |.nd a b c d,e,hr,h=>by
  unfold post;split
  ·exact h
  ·have h4:=qn3 d _ hr.2.2.2.2.2 (qn3 c _ hr.2.2.2.2.1 (qn3 b _ hr.2.2.2.1 (qn3 a e hr.2.2.1 h)));intro s hs;rcases Yi.mp hs with hs|hs
   ·exact h4 s hs
   ·have:s=.nd a b c d:=by simpa using hs
    rw[this];exact hr
theorem qe6{L:List Tr}{t:Tr}(h:name L t=0):t=.z:=by
 cases t with
 |z=>rfl
 |o=>cases h
 |nd a b c d=>rw[qv5] at h;lia
theorem qf4{L:List Tr}{t:Tr}(h:name L t=1):t=.o:=by
 cases t with
 |z=>cases h
 |o=>rfl
 |nd a b c d=>rw[qv5] at h;lia
theorem qx3{L:List Tr}(h:Ord L)(hr:q09 L):∀r∈rowsOf L,¬qF2 r:=λr hm=>by
 obtain⟨i,hi,e⟩:=ZI.mp hm;obtain⟨t,ht,rfl⟩:=qp3 (i:=i) (r:=r) (by rw[Zd hi,e]);obtain⟨⟨a,b,c,d,rfl⟩,_⟩:=h.ch i t ht;have rd:=hr _ (Zy ht);rintro (z|z)
 ·have z':[name L a,name L b,name L c,name L d]=[0,0,0,0]:=z;simp only[Xn,and_true] at z';exact rd.1 ⟨qe6 z'.1,qe6 z'.2.1,qe6 z'.2.2.1,qe6 z'.2.2.2⟩
 ·have z':[name L a,name L b,name L c,name L d]=[1,1,1,1]:=z;simp only[Xn,and_true] at z';exact rd.2.1 ⟨qf4 z'.1,qf4 z'.2.1,qf4 z'.2.2.1,qf4 z'.2.2.2⟩
theorem qy3{n:Nat}(hn:n<=12){t:Tr}(hr:Red t)(hd:dep t<=n):Canon n (name (post t []) t) (rowsOf (post t [])):=by
 obtain⟨ho,hi⟩:=post_ord t [] ord_nil;have hred:=qn3 t [] hr (λs hs=>nomatch hs);have hT:=qn2 ho t hi;have jT:=qp4 ho t hi;generalize hL:post t []=L at ho hi hred hT jT;have ok:=qv6 ho;have ndr:=qr5 ho;have kK:name L t<(rowsOf L).length+2:=by
  rw[rowsOf_len];rcases qj1 ho hi with ⟨_,e⟩|⟨_,e⟩|⟨i,e,e2⟩
  ·lia
  ·lia
  ·have:=(gS_ e).1;lia
 refine⟨hn,ok,kK,by rw[jT];exact hd,qx3 ho hred,ndr,?_⟩;have hdt:=qN1 ok ndr n [] (name L t) (qs1 _) kK (by rw[jT];exact hd);rw[hT] at hdt;have e2:(dfs (rowsOf L) n [] (name L t)).map (tau (rowsOf L))=L:=by rw[hdt];exact hL
 have pe:=(qh4 ok n [] (name L t) (qs1 _) kK (by rw[jT];exact hd)).1;generalize dfs (rowsOf L) n [] (name L t)=E at e2 pe;have hE:E.length=L.length:=by rw[<- e2];simp
 refine W2 λi=>?_;by_cases jW:i<E.length
 ·have hg:E[i]?=some E[i]:=Zd jW;have j5:=pe.lt E[i] (XE jW);rw[rowsOf_len] at j5;have e3:L[i]?=some (tau (rowsOf L) E[i]):=by
   conv=>lhs;rw[<- e2]
   rw[Zg,hg];rfl
  have e4:tau (rowsOf L) E[i]=L[E[i]]:=by
   have ea:L[E[i]]?=some L[E[i]]:=Zd j5;have:=qn2 ho L[E[i]] (.inr (.inr (XE j5)));rw[name_at ho ea] at this;exact this
  rw[e4] at e3;have:E[i]=i:=by
   rcases Nat.lt_trichotomy E[i] i with z|z|z
   ·exact absurd (by rw[e3];exact Zd j5) (nd_iff.mp ho.nd E[i] i z (by lia))
   ·exact z
   ·exact absurd (by rw[e3];exact (Zd j5).symm) (nd_iff.mp ho.nd i E[i] z j5)
  rw[hg,this,XJ (by rw[rowsOf_len];lia)]
 ·rw[YW (by lia),YW (by rw[Y3,rowsOf_len];lia)]
end Qf
namespace Pr
open PySem L2 Qf
def TellAt(H:Hp)(t:Addr)(n top:Nat)(rows:List Row):Prop:=∃p:Addr,H t=some (.tup [.int (n:Nat),.int (top:Nat),.ref p])/\RowsAt H p rows
theorem TellAt.mono{H H':Hp}{t:Addr}{n top:Nat}{rows:List Row}(h:TellAt H t n top rows)(s:Tups H H'):TellAt H' t n top rows:=by
 obtain⟨p,h1,h2⟩:=h;exact⟨p,s _ _ h1,h2.mono s⟩
theorem xi9{ys:List V}(h:∀(i:Nat) y,ys[i]?=some y->y=.bl true):ys=(List.replicate ys.length true).map V.bl:=by
 refine qh6 (by simp) λi x hx=>?_;have hi:=(gS_ hx).1;rw[h i x hx];simp[hi]
theorem q10(k:Nat):(List.replicate k true).all id=true:=by
 rw[YR];intro x hx;exact (List.mem_replicate.mp hx).2
section
variable{P:Program}{w:World}{K:PySem.W.Frag}{mg:Str->Option Value}{base:Heap}
theorem scRow:FnScope ["thing", "before"] ["thing", "before"] (qa5 sRow):=qd4
inductive spRow_(vs:List V)(H:Hp)(Q:VK):Prop
 |mk(b:Addr)(i:Nat)(r:Row)(e0:vs=[.ref b,.int (i:Nat)])(e1:H b=some (.tup (vN r)))(e2:xi0 i r)(e3:∀H',Same H H'->Q (.bl true) H')
def xq4:Sp:=λvs H Q _=>spRow_ vs H Q
theorem xq5{f fN:Addr}{fd fdN:FuncData}(F:Fun K "is_row" "is_row" sRow f fd)(B:Blt mg)(hN:mg "is_number" = some (.ref fN))(FN:Fun K "is_number" "is_number" qv0 fN fdN)(bN:Binds K fdN ["thing", "many"] [])(GN:FnOk P w K mg base CX0 2 fN fdN ["thing", "many"] qA7):FnOk P w K mg base CX0 3 f fd ["thing", "before"] xq4:=by
 refine F.ok scRow (λvs H Q E h=>?_) (λcdv A outer s H vs Q E hr h=>?_)
 ·obtain⟨b,i,r,rfl,_⟩:=h
  rfl
 ·obtain⟨b,i,r,rfl,hb,rk,q⟩:=h;refine⟨_,qc2 (qe5 (qt2 (qq8 (qg9 (qa8 qj9 (by rfl) B.isi Z5 (qa0 (pv 0) (qa0 (qo8 (v:=.ty "tuple") (by rfl) B.tuple ZM rfl) qa2)))))
    (qk7 (qb8 q65 (qa8 qd3 (by rfl) B.len ZT (qa0 (pv 0) qa2)) qa3 (qb6 _)))).pt (qa9 (qb1 qk6)) qb7)
   (qa9 (qb1 (qa8 (qu6 rfl) (by rfl) B.all Wn (qa0 (qh5 ["thing", "before"] (qa5 sRow) rfl rfl rfl scRow.nd (piT K rfl (pv 0)) (λcl C fp s₀ H₀=>pcN GN hr hN FN.kp bN (qa0 (pv 0) (qa0 (pv 2) qa2)))) qa2)))),?_⟩
  refine⟨_,rfl,_,_,_,_,true,rfl,rfl,.inl (.tup hb),rfl,_,rfl,iteF ⟨_,rfl,b,_,rfl,.inr (SqT.of hb),rfl,_,rfl,xw1 (by rw[qg5,rk.1];rfl) ?_⟩⟩;refine⟨_,rfl,b,rfl,⟨_,SqT.of hb⟩,λD hD=>qg1 hD (λ_ z _=>z=.bl true) (qk0 (K:=K) hb) (by rw[qg5,rk.1];decide) (λ_ _ _ _ _ _ h=>h) ?_ ?_⟩
  ·intro j x H3 hj hx s3 Q' hq;obtain⟨m,hm,rfl⟩:=qv2 hx;exact⟨_,rfl,_,rfl,m,i,rfl,rk.2 m (Zy hm),hq _ _ (Same.refl _) rfl⟩
  ·intro ys H3 s3 kD jO jN;have e:=xi9 jN;refine⟨D,List.replicate ys.length true,rfl,by rw[<- e];exact kD,?_⟩;rw[q10];exact q H3 s3
theorem scRows:FnScope ["thing"] ["thing"] (qa5 qZ9):=qd4
inductive spRows_(vs:List V)(H:Hp)(Q:VK):Prop
 |mk(p:Addr)(rows:List Row)(e0:vs=[.ref p])(e1:RowsAt H p rows)(e2:qb3 rows)(e3:rows.length<=900)(e4:∀H',Same H H'->Q (.bl true) H')
def xd7:Sp:=λvs H Q _=>spRows_ vs H Q
theorem xj0{f fR:Addr}{fd fdR:FuncData}(F:Fun K "are_rows" "are_rows" qZ9 f fd)(B:Blt mg)(hR:mg "is_row" = some (.ref fR))(FR:Fun K "is_row" "is_row" sRow fR fdR)(bR:Binds K fdR ["thing", "before"] [])(GR:FnOk P w K mg base CX0 3 fR fdR ["thing", "before"] xq4):FnOk P w K mg base CX0 4 f fd ["thing"] xd7:=by
 refine F.ok scRows (λvs H Q E h=>?_) (λcdv A outer s H vs Q E hr h=>?_)
 ·obtain⟨p,rows,rfl,_⟩:=h
  rfl
 ·obtain⟨p,rows,rfl,jC,ok,hn,q⟩:=h;obtain⟨bs,hp,j2,j6⟩:=id jC;refine⟨_,qa9 (qb1 (qr0 (qa8 qj9 (by rfl) B.isi Z5 (qa0 (pv 0) (qa0 (qo8 (v:=.ty "tuple") (by rfl) B.tuple ZM rfl) qa2)))
   (qq9 (qa8 (qu6 rfl) (by rfl) B.all Wn (qa0 (qs0 ["thing"] (qa5 qZ9) rfl rfl rfl scRows.nd (qz9 (by rfl) B.enum (qa0 (pv 0) qa2)) (λcl C fp s₀ H₀=>pcN GR hr hR FR.kp bR (qa0 (pv 1) (qa0 (pv 0) qa2)))) qa2))))),?_⟩
  refine⟨_,rfl,_,_,_,_,true,rfl,rfl,.inl (.tup hp),rfl,_,rfl,iteT ?_⟩;have jH:(bs.map V.ref).length=rows.length:=by rw[Ze];exact j2
  refine⟨_,rfl,p,rfl,⟨_,SqT.of hp⟩,λD hD=>qk1 hD (λ_=>true) (λ_=>.bl true) (qu9 (K:=K) hp) (by rw[jH];exact qi6 (by lia)) ?_ ?_⟩
  ·rintro i x H2 hi ⟨t,y,rfl,hy,ht⟩ s2 os ho Q1 Q2 q1 q2;obtain⟨o1,o2,rfl⟩:=L2.os2 ho
   ·
    have jW:i<rows.length:=by rw[<- jH];exact hi
    rw[Zg] at hy;obtain⟨b,hb,rfl⟩:=Zl.mp hy;have j8:rows[i]?=some rows[i]:=by simp[jW]
    refine⟨t,_,rfl,SqT.of ht,rfl,_,_,rfl,_,_,rfl,rfl,?_⟩;refine iteT (B:=Q1 H2) ?_;exact⟨_,rfl,_,rfl,b,i,rows[i],rfl,s2 _ _ (j6 i b _ hb j8),ok i _ j8,λH3 s3=>q2 rfl H3 s3⟩
  ·intro H2 s2 jD;refine⟨D,List.replicate (bs.map V.ref).length true,rfl,?_,?_⟩
   ·rw[jD];congr 2;rw[List.map_replicate,List.filter_eq_self.mpr (λ_ _=>rfl)];refine qh6 (by simp) λi x hx=>?_;have hi:=(gS_ hx).1;rw[Zg] at hx;obtain⟨_,_,rfl⟩:=Zl.mp hx;simp at hi;rw[Ze,List.getElem?_replicate,Zm hi]
   ·rw[q10];exact q H2 s2
theorem scTelling:FnScope ["thing", "n", "top", "rows"] ["thing"] (qa5 qs2):=qd4
inductive spTelling_(vs:List V)(H:Hp)(Q:VK):Prop
 |mk(t:Addr)(n tp:Nat)(rows:List Row)(e0:vs=[.ref t])(e1:TellAt H t n tp rows)(e2:n<=12)(e3:qb3 rows)(e4:rows.length<=900)(e5:tp<rows.length+2)(e6:dp rows tp<=n)(e7:∀H',Same H H'->Q (.bl true) H')
def qG0:Sp:=λvs H Q _=>spTelling_ vs H Q
theorem qR5{f fS fR fN fD:Addr}{fd fdS fdR fdN fdD:FuncData}(F:Fun K "is_telling" "is_telling" qs2 f fd)(B:Blt mg)
  (hS:mg "is_size" = some (.ref fS)) (FS:Fun K "is_size" "is_size" q79 fS fdS) (bS:Binds K fdS ["thing"] []) (GS:FnOk P w K mg base CX0 2 fS fdS ["thing"] xd3)
  (hR:mg "are_rows" = some (.ref fR)) (FR:Fun K "are_rows" "are_rows" qZ9 fR fdR) (bR:Binds K fdR ["thing"] []) (GR:FnOk P w K mg base CX0 4 fR fdR ["thing"] xd7)
  (hN:mg "is_number" = some (.ref fN)) (FN:Fun K "is_number" "is_number" qv0 fN fdN) (bN:Binds K fdN ["thing", "many"] []) (GN:FnOk P w K mg base CX0 2 fN fdN ["thing", "many"] qA7)
  (hD:mg "depths_of" = some (.ref fD)) (FD:Fun K "depths_of" "depths_of" qZ8 fD fdD) (bD:Binds K fdD ["rows"] []):FnOk P w K mg base CX0 5 f fd ["thing"] qG0:=by
 have GD:FnOk P w K mg base CX0 1 fD fdD ["rows"] xd5:=xi7 FD B;refine F.ok scTelling (λvs H Q E h=>?_) (λcdv A outer s H vs Q E hr h=>?_)
 ·obtain⟨t,n,tp,rows,rfl,_⟩:=h
  rfl
 ·obtain⟨t,n,tp,rows,rfl,⟨p,ht,jC⟩,hn,ok,hl,htp,hd,q⟩:=h;have j8:Room 1 _:=hr.mono (by decide);have kZ:Room 2 _:=hr.mono (by decide);refine⟨_,qc2 (qe5 (qt2 (qq8 (qg9 (qa8 qj9 (by rfl) B.isi Z5 (qa0 (pv 0) (qa0 (qo8 (v:=.ty "tuple") (by rfl) B.tuple ZM rfl) qa2)))))
    (qk7 (qb8 q65 (qa8 qd3 (by rfl) B.len ZT (qa0 (pv 0) qa2)) qa3 (qb6 _)))).pt (qa9 (qb1 qk6)) qb7)
   (qc2 (qr1 (pv 0) (qm0 rfl (qb9 (pgN 1 scTelling.nd) (qb9 (pgN 2 scTelling.nd) (qb9 (pgN 3 scTelling.nd) qh3)))))
   (qc2 (qe5 (qt2 (qq8 (qg9 (pcN GS kZ hS FS.kp bS (qa0 (pv 1) qa2))))
    (qt2 (qq8 (qg9 (pcN GR hr hR FR.kp bR (qa0 (pv 3) qa2))))
    (qk7 (qq8 (qg9 (pcN GN kZ hN FN.kp bN (qa0 (pv 2) (qa0 (qa8 qd3 (by rfl) B.len ZT (qa0 (pv 3) qa2)) qa2)))))))).pt (qa9 (qb1 qk6)) qb7)
   (qa9 (qb1 (qf9 qC7 (pxN ix_list (pcN GD j8 hD FD.kp bD (qa0 (pv 3) qa2)) (pv 2)) (pv 1) (qb6 _)))))),?_⟩
  refine⟨_,rfl,_,_,_,_,true,rfl,rfl,.inl (.tup ht),rfl,_,rfl,iteF ⟨_,rfl,t,_,rfl,.inr (SqT.of ht),rfl,_,rfl,iteF ?_⟩⟩;refine⟨_,rfl,t,_,rfl,SqT.of ht,rfl,_,_,rfl,_,_,rfl,_,_,rfl,rfl,?_⟩;refine⟨_,rfl,n,rfl,hn,_,rfl,iteF ⟨_,rfl,p,rows,rfl,jC,ok,hl,λH2 s2=>⟨_,rfl,iteF ?_⟩⟩⟩;obtain⟨bs,hp,j2,j6⟩:=id jC;refine⟨_,rfl,_,rfl,p,_,rfl,.inr (SqT.of (s2 _ _ hp)),tp,rows.length,by rw[Ze,j2];rfl,htp,_,rfl,iteF ?_⟩;refine⟨_,rfl,p,rows,rfl,jC.same s2,ok,hl,λH3 D s3 kD=>?_⟩;refine⟨_,rfl,D,_,(tp:Int),.int (dp rows tp:Nat),rfl,rfl,SqL.of kD,xd2 (xd4 htp),_,rfl,_,_,rfl,rfl,?_⟩;show Q (V.bl (decide ((dp rows tp:Int)<=(n:Int)))) H3;rw[Zq (by lia)];exact q H3 (s2.trans s3)
end
def qv9(H:Hp)(t:Addr)(n top:Nat)(rows:List Row):Prop:=TellAt H t n top rows/\Canon n top rows/\rows.length<=900
def keyN(r:List Nat):List Key:=r.map λn:Nat=>Sum.inl (n:Int)
theorem qw0(r:List Nat):(keyN r).map kV=vN r:=by unfold keyN vN;rw[Y4];rfl
theorem qA9{l m:List Nat}(h:keyN l=keyN m):l=m:=by
 have:vN l=vN m:=by rw[<- qw0,<- qw0,h]
 rw[qv3,qv3] at this;exact q04 ((List.map_inj_right (λ_ _ z=>V.int.inj z)).mp this)
theorem qR6{rows:List Row}(h:rows.Nodup):(rows.map keyN).Nodup:=by
 rw[nd_iff] at h ⊢;intro i j vB hj z;rw[Ze] at hj;refine h i j vB hj ?_;rw[Zg,Zg,Zd (by lia),Zd hj] at z;rw[Zd (by lia),Zd hj];congr 1;exact qA9 (ZC z)
theorem qR7(ns:List Int):PyData.depthAll (ns.map PyData.int)<=1:=by
 induction ns with
 |nil=>simp[PyData.depthAll]
 |cons a ns ih=>
  rw[Zz];simp only[PyData.depthAll,PyData.depth];lia
theorem qN2(ns:List Int):(dL ns).depth<=2:=by
 have:=qR7 ns;unfold dL;simp only[PyData.depth];lia
section
variable{P:Program}{w:World}{K:PySem.W.Frag}{mg:Str->Option Value}{base:Heap}
theorem scShape:FnScope ["thing", "top", "rows"] ["thing"] (qa5 qF5):=qd4
inductive spShape_(vs:List V)(H:Hp)(Q:VK):Prop
 |mk(t:Addr)(n tp:Nat)(rows:List Row)(e0:vs=[.ref t])(e1:qv9 H t n tp rows)(e2:∀H',Same H H'->Q (.bl true) H')
def q11:Sp:=λvs H Q _=>spShape_ vs H Q
theorem q87{f fT fP fA:Addr}{fd fdT fdP fdA:FuncData}(F:Fun K "is_shape" "is_shape" qF5 f fd)(B:Blt mg)(T:Cst mg)
  (hT:mg "is_telling" = some (.ref fT)) (FT:Fun K "is_telling" "is_telling" qs2 fT fdT) (bT:Binds K fdT ["thing"] []) (GT:FnOk P w K mg base CX0 5 fT fdT ["thing"] qG0)
  (hP:mg "is_plain" = some (.ref fP)) (FP:Fun K "is_plain" "is_plain" qM3 fP fdP) (bP:Binds K fdP ["row"] [])
  (hA:mg "places_as_ended" = some (.ref fA)) (FA:Fun K "places_as_ended" "places_as_ended" qA4 fA fdA) (bA:Binds K fdA ["rows", "top"] []) (GA:∀d,FnOk P w K mg base CX0 (d+2) fA fdA ["rows", "top"] (qA8 d)):FnOk P w K mg base CX0 15 f fd ["thing"] q11:=by
 have GP:FnOk P w K mg base CX0 2 fP fdP ["row"] q03:=q83 FP T;refine F.ok scShape (λvs H Q E h=>?_) (λcdv A outer s H vs Q E hr h=>?_)
 ·obtain⟨t,n,tp,rows,rfl,_⟩:=h
  rfl
 ·obtain⟨t,n,tp,rows,rfl,⟨hTell,cn,hl⟩,q⟩:=h;obtain⟨p,ht,jC⟩:=id hTell;obtain⟨bs,hp,j2,j6⟩:=id jC;have kZ:Room 2 _:=hr.mono (by decide);have hr5:Room 5 _:=hr.mono (by decide);have hrA:Room (n+2) _:=hr.mono (by have:=cn.size;lia);refine⟨_,qc2 (qe5 (qq8 (qg9 (pcN GT hr5 hT FT.kp bT (qa0 (pv 0) qa2)))) (qa9 (qb1 qk6)) qb7)
   (qc2 (qr1 (qr8 qV6 (pv 0) (qz4 qa3) qz3) (qm0 rfl (qb9 (pgN 1 scShape.nd) (qb9 (pgN 2 scShape.nd) qh3))))
   (qc2 (qe5 (PW.pt (qt2 (qg9 (qa8 (qE9 rfl) (by rfl) B.any PyProof.Rows.boot_any (qa0 (qh5 ["thing", "top", "rows"] (qa5 qF5) rfl rfl rfl scShape.nd (piT K rfl (pv 2)) (λcl C fp s₀ H₀=>pcN GP kZ hP FP.kp bP (qa0 (pv 0) qa2))) qa2)))
    (qk7 (qb8 qp0 (qa8 qJ0 (by rfl) B.len ZT (qa0 (qc3 (qY0 rfl hr) (by rfl) B.set PyProof.Rows.boot_set (qa0 (pv 2) qa2)) qa2)) (qa8 qd3 (by rfl) B.len ZT (qa0 (pv 2) qa2)) (qb6 _))))) (qa9 (qb1 qk6)) qb7)
   (qa9 (qb1 (qf9 (qY1 hr) (pcN (GA n) hrA hA FA.kp bA (qa0 (pv 2) (qa0 (pv 1) qa2)))
    (qc3 (qR1 rfl) (by rfl) B.list PyProof.Rows.boot_list (qa0 (qc3 qF0 (by rfl) B.range PyProof.Rows.boot_range (qa0 (qa8 qd3 (by rfl) B.len ZT (qa0 (pv 2) qa2)) qa2)) qa2)) (qb6 _)))))),?_⟩
  refine⟨_,rfl,t,n,tp,rows,rfl,hTell,cn.size,cn.rok,hl,cn.inn,cn.deep,λH1 s1=>⟨_,rfl,iteF ?_⟩⟩;have ht1:=s1 _ _ ht;refine⟨_,rfl,_,rfl,t,_,rfl,SqT.of ht1,(λz=>absurd (show HT.sIx 3 0 (some 1)=0 from z.1) (by decide)),λu hu=>?_⟩;refine⟨u,_,rfl,SqT.of qa1,rfl,_,_,rfl,_,_,rfl,rfl,?_⟩;have sA:Same H (upd H1 u (.tup [.int (tp:Nat),.ref p])):=s1.trans (qb0 hu);refine (λ(go:∀H2,Same H H2->_)=>go _ sA) ?_;intro H2 s2;have jQ:=s2 _ _ hp;have jH:(bs.map V.ref).length=rows.length:=by rw[Ze];exact j2
  refine⟨_,rfl,p,rfl,⟨_,SqT.of jQ⟩,λD hD=>qg1 hD (λ_ z _=>z=.bl false) (qk0 (K:=K) jQ) (by rw[jH];exact qi6 (by lia)) (λ_ _ _ _ _ _ h=>h) ?_ ?_⟩
  ·intro j x H3 hj hx s3 Q' hq;have jK:j<rows.length:=by rw[<- jH];exact hj
   rw[Zg] at hx;obtain⟨b,hb,rfl⟩:=Zl.mp hx;have j8:rows[j]?=some rows[j]:=by simp[jK]
   refine⟨_,rfl,b,rows[j],rfl,s3 _ _ (s2 _ _ (j6 j b _ hb j8)),(cn.rok j _ j8).1,λH4 s4=>hq _ _ s4 ?_⟩;rw[Zp (cn.unplain _ (XE jK))]
  ·intro ys H3 s3 kD jO jN;have e:ys=(List.replicate ys.length false).map V.bl:=by
    refine qh6 (by simp) λi x hx=>?_;have hi:=(gS_ hx).1;rw[jN i x hx];simp[hi]
   have s23:Same H H3:=s2.trans s3;refine⟨D,List.replicate ys.length false,rfl,by rw[<- e];exact kD,_,rfl,?_⟩;have na:(List.replicate ys.length false).any id=false:=by
    rw[WV];intro x hx;rw[(List.mem_replicate.mp hx).2];decide
   rw[na];refine iteF ?_;have hp3:=s23 _ _ hp;refine⟨_,rfl,p,bs,rows.map keyN,rfl,hp3,by rw[Ze];exact j2,λi b ks e1 e2=>?_,qR6 cn.unlike,by rw[Ze];lia,λr hr'=>?_⟩
   ·rw[Zg] at e2;obtain⟨r0,hr0,rfl⟩:=Zl.mp e2;rw[qw0];exact s23 _ _ (j6 i b r0 e1 hr0)
   ·have s4:Same H (upd H3 r (.ext (SetN r (rows.map keyN).length))):=s23.trans (qb0 hr');have hp4:=s4 _ _ hp;refine⟨r,_,rfl,qa1,by rw[Ze];lia,_,rfl,p,_,rfl,.inr (SqT.of hp4),_,_,rfl,rfl,_,rfl,?_⟩;have nl:decide (((rows.map keyN).length:Int)<((bs.map V.ref).length:Int))=false:=Zp (by rw[jH,Ze];lia);rw[nl];refine iteF ?_;refine (λ(go:∀H5,Same H H5->_)=>go _ s4) ?_;intro H5 s5;refine⟨_,rfl,_,rfl,p,tp,rows,rfl,(jC.same s5).s,cn.rok,(ZH hl (by decide)),cn.inn,cn.deep,λH6 D6 s6 vE=>?_⟩;have hp6:=s6 _ _ (s5 _ _ hp);refine⟨_,rfl,p,_,rfl,.inr (SqT.of hp6),_,rfl,λg hg=>⟨g,rows.length,rfl,by rw[qa1,jH],by lia,λl hl'=>?_⟩⟩;have vO:=qb4 (u:=.lst ((List.range rows.length).map λ(i:Nat)=>V.int (i:Int))) (qb4 (u:=.rng 0 ((bs.map V.ref).length:Int)) vE hg) hl';rw[cn.ends,qv3] at vO;have e9:((List.range rows.length).map λ(i:Nat)=>V.int (i:Int))=((List.range rows.length).map λn:Nat=>(n:Int)).map V.int:=qv3 _;refine⟨dL ((List.range rows.length).map λn:Nat=>(n:Int)),dL ((List.range rows.length).map λn:Nat=>(n:Int)),.lst vO (DatasAt.ints _),.lst qa1 (e9▸DatasAt.ints _),qL8 _,qL8 _,?_,?_⟩
    ·exact ZH (qN2 _) (by decide)
    ·rw[qY2,Zq rfl];exact q _ (s5.trans (s6.trans ((qb0 hg).trans (qb0 hl'))))
theorem xj1:FnScope ["shape"] ["shape"] (qa5 qM4):=qd4
inductive spWantS_(vs:List V)(H:Hp)(Q:VK):Prop
 |mk(t:Addr)(n tp:Nat)(rows:List Row)(e0:vs=[.ref t])(e1:qv9 H t n tp rows)(e2:∀H',Same H H'->Q .non H')
def q12:Sp:=λvs H Q _=>spWantS_ vs H Q
theorem q88{f fS:Addr}{fd fdS:FuncData}(F:Fun K "want_shape" "want_shape" qM4 f fd)
  (hS:mg "is_shape" = some (.ref fS)) (FS:Fun K "is_shape" "is_shape" qF5 fS fdS) (bS:Binds K fdS ["thing"] []) (GS:FnOk P w K mg base CX0 15 fS fdS ["thing"] q11):FnOk P w K mg base CX0 16 f fd ["shape"] q12:=by
 refine F.ok xj1 (λvs H Q E h=>?_) (λcdv A outer s H vs Q E hr h=>?_)
 ·obtain⟨t,n,tp,rows,rfl,_⟩:=h
  rfl
 ·obtain⟨t,n,tp,rows,rfl,hSh,q⟩:=h;refine⟨_,qa9 (qe5 (qq8 (qg9 (pcN GS hr hS FS.kp bS (qa0 (pv 0) qa2)))) qi4 qb7),?_⟩;exact⟨_,rfl,t,n,tp,rows,rfl,hSh,λH1 s1=>⟨_,rfl,iteF (q H1 s1)⟩⟩
end
end Pr
namespace L2
open PySem PySem.Spec PyProof.Rows
section
variable{prog:Program}{w:World}{κ:Type}[DecidableEq κ]{hk:HeapKind prog w κ}{A:Around}{E:Value->Shared->Prop}{s:Shared}{d a:Addr}{k:κ}{xs:List (κ×Addr×Value)}
end
section
variable{X:Cx}
end
end L2
namespace L2
open PySem PySem.Spec PyProof.Rows PySem.W
def Bare(h:Heap)(d:Addr)(tab:Array DictEntry)(ep:Nat):Prop:=∃o,h.get? d=some o/\o.ExactDict/\o.data=.dict tab ep
theorem Bare.stay{h h':Heap}{d:Addr}{tab:Array DictEntry}{ep:Nat}(x:Bare h d tab ep)(k:∀o,h.get? d=some o->h'.get? d=some o):Bare h' d tab ep:=let ⟨o,ho,r⟩:=x;⟨o,k o ho,r⟩
theorem Bare.ty{s:Shared}{d:Addr}{tab:Array DictEntry}{ep:Nat}(x:Bare s.heap d tab ep):s.TypeIs (.ref d) "dict":=let ⟨o,ho,hc,_⟩:=x;⟨o,ho,hc.1⟩
theorem Bare.lt{h:Heap}{d:Addr}{tab:Array DictEntry}{ep:Nat}(x:Bare h d tab ep):d<h.objs.size:=let ⟨_,ho,_⟩:=x;Zr ho
section
variable{prog:Program}{w:World}{A:Around}{E:Value->Shared->Prop}{s:Shared}{d it:Addr}{tab:Array DictEntry}{ep i:Nat}
theorem qG1{Q:Value->Shared->Prop}(lo:(d==sysModules)=false)(x:Bare s.heap d tab ep)
  (q:Q (.ref s.heap.objs.size) { s with heap:=s.heap.push { cls:=.type "dict_keyiterator",data:=.fields #[.ref d,.int 0 0,.int tab.size 0,.int ep 0] } }):wpAny (model prog w) A (pyIter (.ref d)) Q E s:=by
 obtain⟨o,ho,hc,j9⟩:=id x;refine wpAny_pyIter_slot x.ty F.slot_dict_iter (Z1 F.slot_dict_iter x.ty F.entry_dict_iter ?_ (F.args_dict_iter_1 _));show wpAny _ _ (Builtin.Dict.dictSlotNone _ _ >>= _) _ _ _;unfold Builtin.Dict.dictSlotNone;refine Za (Za (wpAny_notOrdered_dict x.ty (Zb ?_)));show wpAny _ _ (Builtin.Dict.showsAll d >>= _) _ _ s;unfold Builtin.Dict.showsAll;rw[Zh (by rw[lo];decide)];refine Za (Zb (Za (Wi ho j9 (Za (wpAny_dictEpoch ho j9 ?_)))));refine Za (ZY (Zb ⟨_,rfl, "dict_keyiterator",_,⟨_,Zj _ rfl,rfl⟩,Yl.lookup,?_⟩));simpa [rawInt] using q
theorem qG2{Q:Option Value->Shared->Prop}(st:s.heap.IsKeyIter it d i tab.size ep)(x:Bare s.heap d tab ep)(hi:i<tab.size)
  (q:∀h',h'.IsKeyIter it d (i+1) tab.size ep->Heap.SameBut it s.heap h'->Q (some tab[i].key) { s with heap:=h' }):wpAny (model prog w) A (pyNext (.ref it)) Q E s:=by
 obtain⟨o,ho,hc,hd⟩:=id st;obtain⟨od,hod,k5,hdd⟩:=id x;unfold pyNext;refine Za (Wu (ZV (name:=Str.ofString "__next__") st.typeIs Yl (Z1 Yl st.typeIs F.entry_dict_keyiterator_next ?_ (F.args_dict_keyiterator_next_1 _))));refine Za (Zb (Za (Za ?_)))
 first|(refine Za (YE st.typeIs (Zb (Za (WQ ho hd ?_)))))|(refine Za (Y9 st.typeIs (Zb (Za (WQ ho hd ?_)))))
 simp only[show Builtin.Dict_items.ownsTuple "dict_keyiterator" = false by decide,Zt,ZP];show wpAny _ _ (if (Value.ref d==Value.none)=true then _ else _) _ _ s;rw[Zh (show ¬((Value.ref d==Value.none)=true) by exact Zs)];refine Za (Zb (Za (Wi hod hdd ?_)));rw[Zh (by simp)];refine Za (Zb (Za (wpAny_dictEpoch hod hdd ?_)));rw[Zh (by simp)];refine Zb ?_;simp only[show ¬((i:Int)<0) by lia,ZP,YG,WU hi];refine Za ?_
 first|(refine Za (YE st.typeIs (Zb (Za (Wo st.typeIs ?_)))))|(refine Za (Y9 st.typeIs (Zb (Za (Wo st.typeIs ?_)))))
 show wpAny _ _ (setField (.ref it) 1 (rawInt ((i:Int)+1)) >>= _) _ _ s;refine Za (WM ho hd (by simp) ?_);have st':(s.heap.update it (Obj.mapFields (·.setIfInBounds 1 (rawInt ((i:Int)+1))))).IsKeyIter it d (i+1) tab.size ep:=⟨_,Xo _ ho (Obj.isFreed_of_fields (X6 hd _)),(Obj.cls_mapFields ..).trans hc,by rw[X6 hd];simp[rawInt]⟩;refine Za (Z3 (Za (Wo (s:={ s with heap:=s.heap.update it (Obj.mapFields (·.setIfInBounds 1 (rawInt ((i:Int)+1)))) }) st'.typeIs ?_)));show wpAny _ _ (pure tab[i].key) _ _ _;exact Zb (Zb ⟨_,rfl,Zb (q _ st' (YK ..))⟩)
theorem qN3{Q:Option Value->Shared->Prop}(hh:A.handled=none)(st:s.heap.IsKeyIter it d tab.size tab.size ep)(x:Bare s.heap d tab ep)
  (q:∀h',Heap.ExtBut it s.heap h'->Q none { s with heap:=h' }):wpAny (model prog w) A (pyNext (.ref it)) Q E s:=by
 obtain⟨o,ho,hc,hd⟩:=id st;obtain⟨od,hod,k5,hdd⟩:=id x;unfold pyNext;refine Za (Wu (ZV (name:=Str.ofString "__next__") st.typeIs Yl (Z1 Yl st.typeIs F.entry_dict_keyiterator_next ?_ (F.args_dict_keyiterator_next_1 _))));refine Za (Zb (Za (Za ?_)))
 first|(refine Za (YE st.typeIs (Zb (Za (WQ ho hd ?_)))))|(refine Za (Y9 st.typeIs (Zb (Za (WQ ho hd ?_)))))
 simp only[show Builtin.Dict_items.ownsTuple "dict_keyiterator" = false by decide,Zt,ZP];show wpAny _ _ (if (Value.ref d==Value.none)=true then _ else _) _ _ s;rw[Zh (show ¬((Value.ref d==Value.none)=true) by exact Zs)];refine Za (Zb (Za (Wi hod hdd ?_)));rw[Zh (by simp)];refine Za (Zb (Za (wpAny_dictEpoch hod hdd ?_)));rw[Zh (by simp)];refine Zb ?_;simp only[show ¬((tab.size:Int)<0) by lia,ZP,YG,Array.getElem?_eq_none (Zf tab.size)];refine Za ?_
 first|(refine Za (YE st.typeIs (Zb ?_)))|(refine Za (Y9 st.typeIs (Zb ?_)))
 show wpAny _ _ (setField (.ref it) 0 .none >>= _) _ _ s;refine Za (WM ho hd (by simp) ?_);show wpAny _ _ (newExc (.type "StopIteration") [] >>= _) _ _ _;refine Za ?_;simp only[newExc,newTuple];refine Za (ZY ?_ (by size_fits));refine Za (m:=firstArgMember _ _) (WZ (a:=Value.none) (by first|rfl|(simp only[firstArgMember];rfl)) (ZY ?_ (by size_fits)));simp only[raiseNew];refine Za (wpAny_handled ?_);rw[show A.in1.handled=none by exact hh];refine Za (Zb (wpAny_throw ?_));refine Za (Ws (T:= "StopIteration") (b:=true) ⟨_,Zj _ rfl,rfl⟩ isSubtype_stop ?_);exact Zb (q _ (((YK ..).extBut.push _).push _))
theorem qR8(hh:A.handled=none)(jB:d≠it):Walks prog w A it [it,d] [it] tab.size (λi v=>∃e,tab[i]?=some e/\v=e.key) (λi h=>h.IsKeyIter it d i tab.size ep/\Bare h d tab ep) where
 sub:=λb hb=>by simp at hb;simp[hb]
 frame:=λ_ _ _ st k=>⟨st.1.at λo e=>k it (by simp) o e,st.2.stay λo e=>k d (by simp) o e⟩
 item:=λi s Q E hi st q=>qG2 st.1 st.2 hi λh' st' sb=>q _ h' s.toks ⟨tab[i],by simp[hi],rfl⟩ ⟨st',st.2.stay λo e=>sb.extBut d o jB e⟩ λb o hb e=>sb.extBut b o (λh=>hb (by simp[h])) e
 done:=λs Q E st q=>qN3 hh st.1 st.2 λh' eb=>q h' s.toks λb o hb e=>eb b o (λh=>hb (by simp[h])) e
 self:=λ_ _ _ _ st q=>wpAny_pyIter_keyiter st.1 q
theorem q89(lo:(d==sysModules)=false):KdlSrc prog w "dict" d d tab.size (λi v=>∃e,tab[i]?=some e/\v=e.key) (λh=>Bare h d tab ep) where
 type:=λ_ x=>x.ty
 there:=λ_ x=>⟨x.lt,x.lt⟩
 keep:=λ_ _ x k=>x.stay λo e=>k d (.inl rfl) o e
 notList:=by decide
 notTuple:=by decide
 hint:=λ_ _ _ _ x q=>kdl_hint_dict x.ty q
 iter:=λ_ _ hh x=>⟨_,_,(λ_ _ q=>qG1 lo x q),qR8 hh (ZB x.lt),⟨⟨_,Zj _ rfl,rfl,rfl⟩,x.stay λo e=>Zc _ e⟩⟩
theorem q13(lo:(d==sysModules)=false):MeetsIn prog w (Builtin.«dict.__len__» ⟨[.ref d],[]⟩) (λ_ R s=>∃tab ep,Bare s.heap d tab ep/\R (.ok (.ret (.int tab.size s.toks))) { s with toks:=s.toks+1 }):=
 .of_wp λA R s ⟨tab,ep,⟨o,ho,hx,j9⟩,q⟩=>by
  show wpAny _ _ (dictSize d >>= _) _ _ s;unfold dictSize;refine Za (Za (Wi ho j9 (Zb ?_)));show wpAny _ _ (Builtin.Dict.pendingCount d >>= _) _ _ s;exact Za (wpAny_pendingCount_other lo (WA (by rw[Yk];exact q)))
theorem qN4{Q:Value->Shared->Prop}(lo:(d==sysModules)=false)(x:Bare s.heap d tab ep)(fit:(tab.size:Int)<2^63)(q:Q (.int tab.size (s.toks+1)) { s with toks:=s.toks+1+1 }) :
  wpAny (model prog w) A (call (.builtin "len") [.ref d]) Q E s:=by
 refine Calls.call_function_entry kind_len plain_len entry_len (args_len1 _) ?_;unfold Builtin.«len»;refine Za (m:=oneArg "len" _) (Zb ?_);refine Za (m:=callSpecial? (.ref d) (Str.ofString "__len__")) (ZV (name:=Str.ofString "__len__") x.ty F.slot_dict_len (call_meetsIn F.slot_dict_len x.ty F.entry_dict_len (F.args_dict_len_1 _) (q13 lo) ⟨tab,ep,x,?_⟩));show wpAny _ _ _ _ _ { s with toks:=s.toks+1 };refine Za (Z3 (Zb (Za (wpAny_letGo ?_))));show wpAny _ _ (if ((tab.size:Nat):Int)<0 then _ else _) _ _ _;rw[Zh (by lia)];show wpAny _ _ (if ((tab.size:Nat):Int)>=2^63 then _ else _) _ _ _;rw[Zh (by lia)];exact Za (wpAny_mkInt (Zb ⟨_,rfl,q⟩))
end
section
variable{X:Cx}
theorem qw1:qg4 X (.builtin "len") (λxs H Q=>∃d kvs,xs=[V.ref d]/\H d=some (.dT kvs)/\Q (.int kvs.length) H):=by
 intro j1 s σ H xs us Q I r h;obtain⟨d,kvs,rfl,hd,q⟩:=h;obtain⟨u,rfl,ru⟩:=qi2 r;cases ru;obtain⟨z,lo,ys,rel,o,tab,ep,ho,hx,j9,ent,uni⟩:=(show ObjOk X.prog X.w H s.heap d (.dT kvs) from I.hok d _ hd);have hl:tab.size=kvs.length:=(XX ent).trans (YN rel).symm;have fit:(tab.size:Int)<2^63:=by rw[hl];rw[YZ] at z;lia
 refine qN4 lo ⟨o,ho,hx,j9⟩ fit ⟨.int kvs.length,H,I.tok _,?_,q⟩;rw[hl];exact⟨_,rfl⟩
end
section
variable{prog:Program}{w:World}{A:Around}{E:Value->Shared->Prop}{s:Shared}{T:String}{r d:Addr}{n:Nat}{P:Nat->Value->Prop}{OK:Heap->Prop}
theorem qJ6{Q:List Value->Shared->Prop}(K:KdlSrc prog w T r d n P OK)(hh:A.handled=none)(hok:OK s.heap)(hn:n<=sizeLine)
  (hQ:∀(h':Heap) tk acc',(∀b o,s.heap.get? b=some o->h'.get? b=some o)->ItemsOf P acc' n->Q acc'.toList { s with heap:=h',toks:=tk }):wpAny (model prog w) A (collect (.ref r)) Q E s:=by
 have j5:=K.there _ hok;unfold collect;refine Za (wpAny_runValue (YY F.entry_proto_collect ?_));rw[Y1 F.plain_proto_collect _];refine Za (ZY ?_);refine Zb ⟨plainId_quiet F.plain_list_iadd _,YY F.entry_list_iadd ?_⟩;rw[Y1 F.plain_list_iadd _];have hS₁:(s.heap.push { cls:=.type "list",data:=.seq ([]:List Value).toArray }).get? s.heap.objs.size=some { cls:=.type "list",data:=.seq ([]:List Value).toArray }:=Zj _ rfl;refine kdl_extend (R:=wants (λv s'=>wpAny (model prog w) A (match v with|.ref a=>(do let ob <- load a;match ob.data with|.seq xs _=>pure xs.toList|_=>unsupported "internal:collect")|_=>unsupported "internal:collect") Q E s') E) (s:={ s with heap:=s.heap.push { cls:=.type "list",data:=.seq ([]:List Value).toArray } }) K hh (K.keep _ _ hok λb _ o e=>Zc _ e) s.heap.objs.size (WE j5.1) (WE j5.2) _ _ hS₁ (λh' tk acc' c' hk hS' jE=>?_) hn;refine Za (wpAny_load hS' ?_);exact Zb (hQ h' tk acc' (λb o e=>hk b o (ZB (Zr e)) (Zc _ e)) jE)
theorem qx4{Q₁:Value->Shared->Prop}(K:KdlSrc prog w T r d n P OK)(hh:A.handled=none)(hok:OK s.heap)(hn:n<=sizeLine)
  (h:∀(h':Heap) tk acc,(∀b o,s.heap.get? b=some o->h'.get? b=some o)->ItemsOf P acc n->Q₁ (.ref h'.objs.size) { s with heap:=h'.push { cls:=.type "tuple",data:=.seq acc },toks:=tk }) :
  codeAny (model prog w) A (.call (.builtin "tuple.__new__") ⟨[.type "tuple",.ref r],[]⟩) (wants Q₁ E) s:=by
 refine codeAny_of_tree ?_;refine Za (WZ (F.newCall_tuple_1 _) (Zb ⟨plainId_quiet F.plain_tuple_new _,YY F.entry_tuple_new ?_⟩));rw[Y1 F.plain_tuple_new _];have hsub:=sub_tuple_self;have hinit:=init_tuple_lookup;have hmh:=madeHere_tuple;have hTI:=K.type s hok;have hnt:=K.notTuple
 wp_walk using WG hTI,qJ6 (A:=A.in1) K hh hok hn
 intro h' tk acc hk jE;show wpAny _ _ (Builtin.Tuple.tupleExact acc.toList.toArray >>= λv=>ret v) _ _ _;unfold Builtin.Tuple.tupleExact;refine Za (ZY ?_ (by show acc.toList.toArray.size<=sizeLine;simp only[Array.toArray_toList];rw[jE.1];exact hn));refine Zb ?_;have e:acc.toList.toArray=acc:=by simp
 rw[e];exact h h' tk acc hk jE
theorem q14{Q:Value->Shared->Prop}(K:KdlSrc prog w T r d n P OK)(hh:A.handled=none)(hok:OK s.heap)(hn:n<=sizeLine)
  (h:∀(h':Heap) tk acc,(∀b o,s.heap.get? b=some o->h'.get? b=some o)->ItemsOf P acc n->Q (.ref h'.objs.size) { s with heap:=h'.push { cls:=.type "tuple",data:=.seq acc },toks:=tk }) :
  wpAny (model prog w) A (call (.type "tuple") [.ref r]) Q E s:=by
 refine callType_codes (Q₁:=λobj s₁=>s₁.TypeIs obj "tuple" /\ Q obj s₁) F.called_tuple (F.typeCall_tuple_1 _) F.entry_object_init
  (qx4 K hh hok hn λh' tk acc hk jE=>⟨⟨_,Zj _ rfl,rfl⟩,h h' tk acc hk jE⟩) λobj s₁ h₁=>?_
 exact⟨h₁.1,F.args_object_init_2 obj _,object_init_meets F.called_tuple.init.lookup F.called_tuple.made (by decide) prog w A.in1 _ s₁ ⟨h₁.1,rfl,h₁.2⟩⟩
end
section
variable{X:Cx}
theorem qG3(hc:X.calm=true):qg4 X (.type "tuple") (λxs H Q=>∃(d:Addr)(kvs:List (List Key×V)),xs=[.ref d]/\H d=some (.dT kvs) /\
  ∀(l:Addr)(bs:List Addr),H l=none->bs.length=kvs.length->(∀(i:Nat) b kv,bs[i]?=some b->kvs[i]?=some kv->H b=some (.tup (kv.1.map kV)))->Q (.ref l) (upd H l (.tup (bs.map V.ref)))):=by
 intro j1 s σ H xs us Q I r h;obtain⟨d,kvs,rfl,hd,q⟩:=h;obtain⟨u,rfl,ru⟩:=qi2 r;cases ru;obtain⟨z,lo,ys,rel,o,tab,ep,ho,hx,j9,ent,uni⟩:=(show ObjOk X.prog X.w H s.heap d (.dT kvs) from I.hok d _ hd);have hl:kvs.length=ys.length:=YN rel;have ht:tab.size=ys.length:=XX ent;refine q14 (q89 (tab:=tab) (ep:=ep) lo) (I.ok.hd hc) ⟨o,ho,hx,j9⟩ (by lia) λh' tk acc kp jE=>?_;have at_:∀(i:Nat) p y,kvs[i]?=some p->ys[i]?=some y->H y.2.1=some (.tup (p.1.map kV)):=by
  have gen:∀{l:List (List Key×V)}{m:List (List Key×Addr×Value)},Paired (λ(p:List Key×V) (q:List Key×Addr×Value)=>p.1=q.1/\H q.2.1=some (.tup (p.1.map kV))/\RelV p.2 q.2.2) l m->∀(i:Nat) p y,l[i]?=some p->m[i]?=some y->H y.2.1=some (.tup (p.1.map kV)):=by
   intro l m pr
   induction pr with
   |nil=>intro i p y h1;simp at h1
   |cons a1 a2 ih=>
    intro i p y h1 h2;cases i with
    |zero=>simp at h1 h2;subst h1;subst h2;exact a1.2.1
    |succ i=>exact ih i p y (by simpa using h1) (by simpa using h2)
  exact gen rel
 have jH:(ys.map (·.2.1)).length=kvs.length:=by rw[Ze,hl]
 have I1:=I.kept (t':=tk) kp;have hf:H h'.objs.size=none:=I1.hok.fresh (Zf _);refine⟨.ref h'.objs.size,_,I1.laid (a:=h'.objs.size) (o:=.tup ((ys.map (·.2.1)).map V.ref)) (t':=tk) (λb o e=>Zc _ e) (Zf _) (show ObjOk X.prog X.w _ _ _ (.tup ((ys.map (·.2.1)).map V.ref)) from ⟨by rw[Ze,jH];exact z,acc.toList,?_,by have:=IsTupX.new h' acc.toList.toArray;simpa using this⟩),rfl,q _ _ hf jH λi b kv e1 e2=>?_⟩
 ·refine qA1 (by simp[jE.1,ht]) λi x v h1 h2=>?_;rw[Zg,Zg] at h1;obtain⟨b,hb,rfl⟩:=Zl.mp h1;obtain⟨y,hy,rfl⟩:=Zl.mp hb;obtain⟨e,he,rfl⟩:=jE.2 i v (by simpa using h2);rw[entry_at ent i,hy] at he;have:=ZC he;subst this
  rfl
 ·rw[Zg] at e1;obtain⟨y,hy,rfl⟩:=Zl.mp e1;exact at_ i kv y e2 hy
open Classical in
noncomputable def qp5(h:Heap)(d:PyData)(w:Value):Bool:=decide (∃(e:PyData)(bs:List Addr),Reads h w e bs/\e.canLay0=true/\PyData.eqv e d=true)
open Classical in
theorem q90{h:Heap}{d d':PyData}{w:Value}{bs:List Addr}(rb:Reads h w d' bs)(c:d'.canLay0=true):qp5 h d w=PyData.eqv d' d:=by
 unfold qp5;cases hb:PyData.eqv d' d with
 |true=>exact Zq ⟨d',bs,rb,c,hb⟩
 |false=>
  refine Zp λ⟨e,bs',re,_,he⟩=>?_;have:=SeqAt.Reads.unique d' e w bs bs' c rb re;rw[<- this,hb] at he;cases he
theorem qB0{j1:List (Addr×Obj)}{s:Shared}{σ:St}{H:Hp}{v:Value}{d:PyData}{as:List Addr}(I:Inv X j1 σ H s)(un:X.A.units+64<cLine)(ra:Reads s.heap v d as)(c1:d.canLay0=true)(dd:d.depth<=50) :
  ∀{xs:List V}{ds:List PyData}{us:List Value},DatasAt H xs ds->Vals xs us->PyData.canLayAll0 ds=true->(∀w∈us,SeqAt.EqAt X.A.in1 s w v (qp5 s.heap d w))/\us.any (qp5 s.heap d)=ds.any λe=>PyData.eqv e d
 |_,_,_,.nil,.nil,_=>⟨λw hw=>(nomatch hw),rfl⟩
 |_,d'::ds',u0::us0,.cons hx hxs,.cons r0 rs,h3=>by
  have h3':d'.canLay0=true/\PyData.canLayAll0 ds'=true:=by simpa [PyData.canLayAll0] using h3
  obtain⟨e1,e2⟩:=qB0 I un ra c1 dd hxs rs h3'.2;obtain⟨bs,rb⟩:=hx.reads I.hok r0;have eb:=q90 (d:=d) rb h3'.1;refine⟨λw hw=>?_,?_⟩
  ·rcases Zv.mp hw with rfl|hw
   ·rw[eb];exact SeqAt.eqAt_reads d' d X.A.in1 s w v bs as rb ra h3'.1 c1 (by
     have:X.A.in1.units=X.A.units+1:=rfl;lia)
   ·exact e1 w hw
  ·rw[Yn,Yn,eb,e2]
theorem xd8{k:Nat}(hr:Room k X.A):OpR X (compareOp .In) (λx y H Q=>∃(p:Addr)(xs:List V)(ds:List PyData)(d:PyData),y=.ref p/\H p=some (.tup xs)/\DatasAt H xs ds/\DataAt H x d/\d.canLay0=true/\PyData.canLayAll0 ds=true/\d.depth<=50 /\
  Q (.bl (ds.any λe=>PyData.eqv e d)) H):=by
 intro j1 s σ H x y v u Q I rx ry h;obtain⟨p,xs,ds,d,rfl,hp,jZ,hd,c1,c2,dd,q⟩:=h;cases ry;obtain⟨as,ra⟩:=hd.reads I.hok rx;obtain⟨its,rv,pl,hz⟩:=I.tuple (SqT.of hp);have un:=hr.units;obtain⟨k1,k2⟩:=qB0 (X:=X) I un ra c1 dd jZ rv c2;refine SeqAt.in_tupleAt (qp5 s.heap d) pl (λw hw=>k1 w (by simpa using hw)) ⟨.bl _,H,I,rfl,?_⟩;rw[show its.toArray.any (qp5 s.heap d)=its.any (qp5 s.heap d) by simp,k2];exact q
end
end L2
namespace L2
open PySem
theorem q91{α:Type}{i1 i2:BEq α}(h1:@LawfulBEq α i1)(h2:@LawfulBEq α i2):i1=i2:=by
 have:∀a b,@BEq.beq α i1 a b=@BEq.beq α i2 a b:=λa b=>by
  rw[ZO,@X1 α i1 h1,@X1 α i2 h2]
 cases i1;cases i2;congr 1;funext a b;exact this a b
structure PEb(X:Cx)(e:Expr)(t:TE):Prop where
 go:PE X e t
structure PSb(X:Cx)(st:Stmt)(t:TS):Prop where
 go:PS X st t
inductive StB(X:Cx):List Stmt->TS->Prop
 |one {st:Stmt}{t:TS}(h:PSb X st t):StB X [st] t
 |cons {st:Stmt}{rest:List Stmt}{t u:TS}(h:PSb X st t) (r:StB X rest u):StB X (st::rest) (tSeq t u)
theorem StB.go{X:Cx}:∀{l:List Stmt}{t:TS},StB X l t->PSs X l t
 |_,_,.one h=>qa9 h.go
 |_,_,.cons h r=>qc2 h.go r.go
theorem seqE{X:Cx}{st:Stmt}{rest:List Stmt}{R:TS->Prop}(h:∃t,PSb X st t/\∃u,PSs X rest u/\R (tSeq t u)):∃t,PSs X (st::rest) t/\R t:=by
 obtain⟨t,h1,u,h2,h3⟩:=h;exact⟨_,qc2 h1.go h2,h3⟩
theorem qg2{X:Cx}{st:Stmt}{R:TS->Prop}(h:∃t,PSb X st t/\R t):∃t,PSs X [st] t/\R t:=by
 obtain⟨t,h1,h3⟩:=h;exact⟨_,qa9 h1.go,h3⟩
inductive Ars2(X:Cx):List Expr->TA->Prop
 |nil:Ars2 X [] tNil
 |cons {e:Expr}{es:List Expr}{te:TE}{t:TA}(h:PEb X e te) (r:Ars2 X es t) (hs:starEach (e::es) X.env=(false,eval e X.env)::starEach es X.env):Ars2 X (e::es) (xo0 te t)
theorem Ars2.go{X:Cx}:∀{es:List Expr}{t:TA},Ars2 X es t->PA X es t
 |_,_,.nil=>qa2
 |_,_,.cons h r hs=>qa0 h.go r.go hs
theorem qc7{X:Cx}{i:Int}{j:Nat}{pos:Pos}:PEb X (.Constant (.int i) j pos) (tC (.int i)):=⟨qa3⟩
end L2
namespace Pr
open PySem L2 Qf
def PurseAt(H:Hp)(p:Addr):Prop:=∃a b:Int,H p=some (.lst [.int a,.int b])/\0<=a/\0<=b/\b<2^40
theorem PurseAt.same{H H':Hp}{p:Addr}(h:PurseAt H p)(s:Same H H'):PurseAt H' p:=by
 obtain⟨a,b,e,r⟩:=h;exact⟨a,b,s _ _ e,r⟩
def RowsL(H:Hp)(p:Addr)(rows:List Row):Prop:=∃bs:List Addr,H p=some (.lst (bs.map V.ref))/\bs.length=rows.length/\∀(i:Nat) b r,bs[i]?=some b->rows[i]?=some r->H b=some (.tup (vN r))
theorem RowsL.same{H H':Hp}{p:Addr}{rows:List Row}(h:RowsL H p rows)(s:Same H H'):RowsL H' p rows:=by
 obtain⟨bs,h1,h2,h3⟩:=h;exact⟨bs,s _ _ h1,h2,λi b r e1 e2=>s _ _ (h3 i b r e1 e2)⟩
def tabl{α κ:Type}(key:α->κ)(l:List α)(k:Nat):List (κ×V):=(l.zipIdx k).map λp=>(key p.1,V.int (p.2:Nat))
section
variable{α κ:Type}[DecidableEq α][DecidableEq κ]{key:α->κ}
theorem qn4(l:List α)(k:Nat):(tabl key l k).length=l.length:=by simp[tabl]
theorem q15(a:α)(l:List α)(k:Nat):tabl key (a::l) k=(key a,V.int (k:Nat))::tabl key l (k+1):=by simp[tabl]
theorem q16(l:List α)(a:α)(k:Nat):tabl key (l++[a]) k=tabl key l k++[(key a,V.int (k+l.length:Nat))]:=by simp[tabl,List.zipIdx_append]
theorem qB1(inj:∀a b,key a=key b->a=b)(a:α):∀(l:List α)(k:Nat),valV (tabl key l k) (key a)=if a∈l then some (.int (k+l.idxOf a:Nat)) else none
 |[],k=>by simp[tabl,valV]
 |b::l,k=>by
  rw[q15];by_cases h:b=a
  ·subst h;rw[qd8 rfl,Zm Zu,List.idxOf_cons_self]
   rfl
  ·rw[qd9 (λz=>h (inj _ _ z)),qB1 inj a l (k+1)];by_cases hm:a∈l
   ·have e:(b::l).idxOf a=l.idxOf a+1:=by
     rw[List.idxOf_cons,beq_false_of_ne h]
     rfl
    rw[Zm hm,Zm (Zn _ hm),e];congr 3;lia
   ·rw[Zh hm,Zh (λz=>by rcases Zv.mp z with z|z;exact h z.symm;exact hm z)]
theorem q92(inj:∀a b,key a=key b->a=b){l:List α}{a:α}{k:Nat}(h:a∉l):putK (tabl key l k) (key a) (.int (k+l.length:Nat))=tabl key (l++[a]) k:=by
 unfold putK;rw[qe2,qB1 inj,Zh h,Zh (by decide),q16]
end
theorem RowsL.but{H H':Hp}{p e:Addr}{rows:List Row}{o:HO}(h:RowsL H p rows)(b:But e H H')(hpe:p≠e)(he:H e=some o)(no:∀u,o≠.tup u):RowsL H' p rows:=by
 obtain⟨bs,h1,h2,h3⟩:=h;exact⟨bs,b _ _ h1 hpe,h2,λi c r e1 e2=>b.tups he no _ _ (h3 i c r e1 e2)⟩
theorem qp6{H:Hp}:∀{bs:List Addr}{rows:List Row},bs.length=rows.length->(∀(i:Nat) b r,bs[i]?=some b->rows[i]?=some r->H b=some (.tup (vN r))) ->
  DatasAt H (bs.map V.ref) (rows.map λr=>dT (r.map λx:Nat=>(x:Int)))
 |[],[],_,_=>.nil
 |b::bs,r::rows,hl,h=>by
  refine .cons ?_ (qp6 (by simpa using hl) λi c q e1 e2=>h (i+1) c q (by simpa using e1) (by simpa using e2));have h0:=h 0 b r rfl rfl;rw[qv3] at h0;exact .tup h0 (DatasAt.ints _)
theorem qh8:∀rows:List Row,PyData.canLayAll0 (rows.map λr=>dT (r.map λx:Nat=>(x:Int)))=true
 |[]=>rfl
 |r::rows=>by
  rw[Zz,PyData.canLayAll0,qx9,qh8 rows];rfl
theorem qp7:∀ns:List Int,PyData.depthAll (ns.map PyData.int)=0
 |[]=>rfl
 |n::ns=>by rw[Zz,PyData.depthAll,qp7 ns];rfl
theorem qy4:∀rows:List Row,PyData.depthAll (rows.map λr=>dT (r.map λx:Nat=>(x:Int)))<=1
 |[]=>by decide
 |r::rows=>by
  have:=qy4 rows;have e:(dT (r.map λx:Nat=>(x:Int))).depth=1:=by
   show PyData.depthAll _+1=1;rw[qp7]
  rw[Zz,PyData.depthAll,e];lia
theorem q93(cs:List Addr)(t:Addr):cs.map V.ref++[.ref t]=(cs++[t]).map V.ref:=by rw[ZE];rfl
def q17(rows:List Row):List PyData:=rows.map λr=>dT (r.map λx:Nat=>(x:Int))
theorem q18(m:List Row):PyData.eqv (.list (q17 m)) (.list [])=m.isEmpty:=by
 cases m with
 |nil=>rfl
 |cons a l=>simp[q17,PyData.eqv,PyData.eqvAll]
theorem qp8{H:Hp}{p:Addr}{rows:List Row}(h:RowsL H p rows):DataAt H (.ref p) (.list (q17 rows)):=by
 obtain⟨bs,hp,hl,hr⟩:=h;exact .lst hp (qp6 hl hr)
theorem ql5(rows:List Row):(PyData.list (q17 rows)).depth<=60:=by
 have:=qy4 rows;show PyData.depthAll _+1<=60;unfold q17;lia
def tK(rows:List Row):List (List Key×V):=tabl keyN rows 2
theorem q94{α:Type}{i1 i2:BEq α}(h1:@LawfulBEq α i1)(h2:@LawfulBEq α i2)(l:List α)(a:α):@List.idxOf α i1 a l=@List.idxOf α i2 a l:=by
 cases q91 h1 h2
 rfl
theorem xd9(rows:List Row)(r:Row):valV (tK rows) (keyN r)=if r∈rows then some (.int (rows.idxOf r+2:Nat)) else none:=by
 unfold tK;rw[qB1 (λa b=>qA9)];split
 ·rw[Vb];exact ZQ (λn:Nat=>some (V.int ((n+2:Nat):Int))) (q94 (by infer_instance) (by infer_instance) _ _)
 ·rfl
theorem xj2{H1 H2:Hp}{t n tp:Nat}{rows:List Row}(h:qv9 H1 t n tp rows)(s:Same H1 H2):qv9 H2 t n tp rows:=let ⟨⟨p,a,b⟩,c,d⟩:=h;⟨⟨p,s _ _ a,b.same s⟩,c,d⟩
end Pr
namespace Qf
open Tr
theorem qp9{L:List Tr}{t:Tr}(h:In L t):post t L=L:=by
 cases t with
 |z=>rfl
 |o=>rfl
 |nd a b c d=>
  have hm:Tr.nd a b c d∈L:=by rcases h with h|h|h;cases h;cases h;exact h
  unfold post;rw[Zm hm]
theorem qk3{L:List Tr}(h:Ord L){t:Tr}(hk:∀s∈kids t,In L s):rowsOf (L++[t])=rowsOf L++[(kids t).map (name L)]:=by
 unfold rowsOf;rw[ZE];congr 1
 ·refine Ye λu hu=>?_;obtain⟨i,hi,e⟩:=ZI.mp hu;exact Ye λs hs=>name_app (kid_in h (i:=i) (t:=u) (by rw[Zd hi,e]) hs).1 h
 ·show[(kids t).map (name (L++[t]))]=_;congr 1;exact Ye λs hs=>name_app (hk s hs) h
theorem q19{L:List Tr}(h:Ord L){a b c d:Tr}(hk:∀s∈kids (.nd a b c d),In L s):(kids (.nd a b c d)).map (name L)∈rowsOf L<->Tr.nd a b c d∈L:=by
 constructor
 ·intro hm;obtain⟨i,hi,e⟩:=ZI.mp hm;obtain⟨t,ht,er⟩:=qp3 (i:=i) (r:=(kids (.nd a b c d)).map (name L)) (by rw[Zd hi,e]);have:=qN0 ⟨a,b,c,d,rfl⟩ (h.ch i t ht).1 (qj2 h hk (λs hs=>(kid_in h ht hs).1) er);rw[this];exact Zy ht
 ·intro hm;obtain⟨i,hi,e⟩:=ZI.mp hm;exact Zy (rowsOf_at (i:=i) (t:=.nd a b c d) (by rw[Zd hi,e]))
theorem xj3{L:List Tr}(h:Ord L){i:Nat}{t:Tr}(e:L[i]?=some t):(rowsOf L).idxOf ((kids t).map (name L))=i:=by
 have hl:=(gS_ e).1;have e2:=rowsOf_at e;have jG:i<(rowsOf L).length:=by rw[rowsOf_len];exact hl
 have e3:=(gS_ e2).2;rw[<- e3];exact (qr5 h).idxOf_getElem i jG
end Qf
namespace Pr
open PySem L2 Qf
theorem xe0{H:Hp}{e u:Addr}{L:List Tr}(hO:Tr.Ord L){a b c d:Tr}(hm:Tr.nd a b c d∈L)(he:H e=some (.dT (tK (Tr.rowsOf L))))(hu:H u=some (.tup (vN [Tr.name L a,Tr.name L b,Tr.name L c,Tr.name L d]))) :
  DGet H e (.ref u) (some (.int (Tr.name L (.nd a b c d):Nat))):=by
 obtain⟨i,hi,ei⟩:=ZI.mp hm;have ei':L[i]?=some (.nd a b c d):=by rw[Zd hi,ei]
 have hix:=xj3 hO ei';have hmr:(Tr.kids (.nd a b c d)).map (Tr.name L)∈Tr.rowsOf L:=Zy (Tr.rowsOf_at ei');have:=DGet.t (k:=keyN ((Tr.kids (.nd a b c d)).map (Tr.name L))) he (by rw[qw0];exact hu);rw[xd9,Zm hmr,hix] at this;rw[Tr.name_at hO ei'];exact this
end Pr
namespace Qf
open Tr
theorem q20{rows:List Row}(ok:qb3 rows){q:Nat}(hq:q<rows.length+2):(T rows q=z<->q=0)/\(T rows q=o<->q=1):=by
 by_cases q2:q<2
 ·match q,q2 with
  |0,_=>rw[qf1];exact⟨⟨λ_=>rfl,λ_=>rfl⟩,⟨λh=>(nomatch h),λh=>(nomatch h)⟩⟩
  |1,_=>rw[qh7];exact⟨⟨λh=>(nomatch h),λh=>(nomatch h)⟩,⟨λ_=>rfl,λ_=>rfl⟩⟩
 ·obtain⟨p',a',b',c',d',rfl,hp'⟩:=qr6 ok hq q2;rw[qi3 ok hp'];exact⟨⟨λh=>(nomatch h),λh=>by lia⟩,⟨λh=>(nomatch h),λh=>by lia⟩⟩
theorem q21{n top:Nat}{rows:List Row}(c:Canon n top rows):dep (T rows top)<=n:=by
 obtain⟨er,et⟩:=qy2 c;obtain⟨ho,hi⟩:=post_ord (T rows top) [] ord_nil;have h:=qp4 ho _ hi;rw[<- er,<- et] at h;rw[<- h];exact c.deep
theorem q22{a b c d:Tr}{s:Nat}(h:dep (.nd a b c d)<=s+1):dep a<=s/\dep b<=s/\dep c<=s/\dep d<=s:=by
 have h':1+mx [dep a,dep b,dep c,dep d]<=s+1:=h;have hm:∀x∈[dep a,dep b,dep c,dep d],x<=mx [dep a,dep b,dep c,dep d]:=λx hx=>qJ3 hx;have h1:=hm (dep a) (by simp);have h2:=hm (dep b) (by simp);have h3:=hm (dep c) (by simp);have h4:=hm (dep d) (by simp);lia
theorem qG4{a b c d:Tr}{s:Nat}(h1:dep a<=s)(h2:dep b<=s)(h3:dep c<=s)(h4:dep d<=s):dep (.nd a b c d)<=s+1:=by
 show 1+mx [dep a,dep b,dep c,dep d]<=s+1;have:mx [dep a,dep b,dep c,dep d]<=s:=xh9 λx hx=>by
  have:x=dep a\/x=dep b\/x=dep c\/x=dep d:=by simpa using hx
  rcases this with rfl|rfl|rfl|rfl<;>assumption
 lia
def qr(i:Nat):Tr->Tr
 |.nd a b c d=>[a,b,c,d].getD i .z
 |t=>t
theorem T_qr{rows:List Row}(ok:qb3 rows){p i:Nat}{r:Row}{x:Nat}(hp:rows[p]?=some r)(hi:i<4)(hx:r[i]?=some x):T rows x=qr i (T rows (p+2)):=by
 obtain⟨a,b,c,d,rfl⟩:=qv8 (ok p r hp).1;rw[qi3 ok hp]
 match i,hi with
 |0,_=>cases hx;rfl
 |1,_=>cases hx;rfl
 |2,_=>cases hx;rfl
 |3,_=>cases hx;rfl
theorem xq6{i k:Nat}(hi:i<4):∀(t:Tr),dep t<=k+1->dep (qr i t)<=k
 |.z,_=>Zx _
 |.o,_=>Zx _
 |.nd a b c d,h=>by
  have h':mx [dep a,dep b,dep c,dep d]<=k:=by
   have:1+mx [dep a,dep b,dep c,dep d]<=k+1:=h;lia
  have m:∀x∈[dep a,dep b,dep c,dep d],x<=k:=λx hx=>ZH (qJ3 hx) h'
  match i,hi with
  |0,_=>exact m (dep a) (by simp)
  |1,_=>exact m (dep b) (by simp)
  |2,_=>exact m (dep c) (by simp)
  |3,_=>exact m (dep d) (by simp)
theorem dep0:∀{t:Tr},dep t<=0->t=.z\/t=.o
 |.z,_=>.inl rfl
 |.o,_=>.inr rfl
 |.nd a b c d,h=>by
  have:1+mx [dep a,dep b,dep c,dep d]<=0:=h;lia
end Qf
namespace L2
open PySem
theorem q23{H:Hp}{n k:Nat}{g:TG}{tt:TT}{te:TE}{σ:St}{Fin:Hp->Prop}{D:Addr}(Iv:Nat->List V->Hp->Prop)(hsz:n<sizeLine)(i0:Iv 0 [] (upd H D (.lst [])))(hD:∀i xs H2,Iv i xs H2->H2 D=some (.lst xs)/\xs.length<=i)
  (step:∀i xs H2,i<n->Iv i xs H2->∀os:St,os.length=k->∀(Q1:Hp->Prop)(Q2:VK),(∀H3,Iv (i+1) xs H3->Q1 H3)->(∀v H3,H3 D=some (.lst xs)->Iv (i+1) (xs++[v]) (upd H3 D (.lst (xs++[v])))->Q2 v H3) ->
   g (.int (0+(i:Int))) (os++σ) H2 λσ4 H4=>tt σ4 H4 λb H5=>if b=true then te σ4 H5 Q2 else Q1 H5)
  (fin:∀xs H2,Iv n xs H2->Fin H2) :
  ∃W:Nat->Nat->List V->Hp->Prop,(∃m,W 0 m [] (upd H D (.lst []))) /\
   ∀i m xs H2,W i m xs H2->H2 D=some (.lst xs)/\xs.length<sizeLine/\(((Itr 0 n).stop i H2/\Fin H2)\/((Itr 0 n).go i H2/\∀y H3,(Itr 0 n).yld i H2 y H3->∀os:St,os.length=k ->
    g y (os++σ) H3 λσ4 H4=>tt σ4 H4 λb H5=>if b=true then te σ4 H5 λv H6=>H6 D=some (.lst xs)/\∃m',m'<m/\W (i+1) m' (xs++[v]) (upd H6 D (.lst (xs++[v]))) else ∃m',m'<m/\W (i+1) m' xs H5)):=by
 refine⟨λi m xs H2=>i<=n/\m=n-i/\Iv i xs H2,⟨n,Zx _,rfl,i0⟩,?_⟩;rintro i m xs H2 ⟨hi,rfl,iv⟩;obtain⟨h1,h2⟩:=hD i xs H2 iv;refine⟨h1,by lia,?_⟩;by_cases he:i=n
 ·subst he;exact .inl ⟨Zf i,fin xs H2 iv⟩
 ·refine .inr ⟨show i<n by lia,λy H3 hy os ho=>?_⟩;obtain⟨e1,e2⟩:=hy;rw[e1,e2];exact step i xs H2 (by lia) iv os ho _ _ (λH5 h=>⟨n-(i+1),by lia,by lia,rfl,h⟩) λv H6 h1 h2=>⟨h1,n-(i+1),by lia,by lia,rfl,h2⟩
theorem q95{H:Hp}{n:Nat}{te:TE}{σ:St}{Fin:Hp->Prop}{D:Addr}(Iv:Nat->List V->Hp->Prop)(hsz:n<sizeLine)(i0:Iv 0 [] (upd H D (.lst [])))(hD:∀i xs H2,Iv i xs H2->H2 D=some (.lst xs)/\xs.length<=i)
  (step:∀i xs H2,i<n->Iv i xs H2->∀Q2:VK,(∀v H3,H3 D=some (.lst xs)->Iv (i+1) (xs++[v]) (upd H3 D (.lst (xs++[v])))->Q2 v H3)->te (some (.int (0+(i:Int)))::σ) H2 Q2)
  (fin:∀xs H2,Iv n xs H2->Fin H2) :
  ∃W:Nat->Nat->List V->Hp->Prop,(∃m,W 0 m [] (upd H D (.lst []))) /\
   ∀i m xs H2,W i m xs H2->H2 D=some (.lst xs)/\xs.length<sizeLine/\(((Itr 0 n).stop i H2/\Fin H2)\/((Itr 0 n).go i H2/\∀y H3,(Itr 0 n).yld i H2 y H3 ->
    te (some y::σ) H3 λv H4=>H4 D=some (.lst xs)/\∃m',m'<m/\W (i+1) m' (xs++[v]) (upd H4 D (.lst (xs++[v]))))):=by
 refine⟨λi m xs H2=>i<=n/\m=n-i/\Iv i xs H2,⟨n,Zx _,rfl,i0⟩,?_⟩;rintro i m xs H2 ⟨hi,rfl,iv⟩;obtain⟨h1,h2⟩:=hD i xs H2 iv;refine⟨h1,by lia,?_⟩;by_cases he:i=n
 ·subst he;exact .inl ⟨Zf i,fin xs H2 iv⟩
 ·refine .inr ⟨show i<n by lia,λy H3 hy=>?_⟩;obtain⟨e1,e2⟩:=hy;rw[e1,e2];exact step i xs H2 (by lia) iv _ λv H6 h1 h2=>⟨h1,n-(i+1),by lia,by lia,rfl,h2⟩
end L2
namespace Pr
open PySem L2 Qf
structure Blt2(mg:Str->Option Value):Prop where
 abs:mg "abs" = none
 repr:mg "repr" = none
 str:mg "str" = none
section
variable{P:Program}{w:World}{K:PySem.W.Frag}{mg:Str->Option Value}{base:Heap}
theorem scDigit:FnScope ["_law_pot_here", "_law_many", "_law_digit_here"] ["_law_pot_here", "_law_many"] (qa5 qM6):=qd4
inductive spDigit_(vs:List V)(H:Hp)(Q:VK):Prop
 |mk(p:Addr)(n:Nat)(e0:vs=[.ref p,.int (n:Nat)])(e1:PurseAt H p)(e2:0<n)(e3:n<1000000)(e4:∀(d:Nat)(H':Hp),d<n->But p H H'->PurseAt H' p->Q (.int (d:Nat)) H')
def q24:Sp:=λvs H Q _=>spDigit_ vs H Q
theorem q96{f:Addr}{fd:FuncData}(F:Fun K "_law_digit" "_law_digit" qM6 f fd):FnOk P w K mg base CX0 1 f fd ["_law_pot_here", "_law_many"] q24:=by
 refine F.ok scDigit (λvs H Q E h=>?_) (λcdv A outer s H vs Q E hr h=>?_)
 ·obtain⟨p,n,rfl,_⟩:=h
  rfl
 ·obtain⟨p,n,rfl,⟨a,b,hp,ha,hb,kE⟩,hn,hn2,q⟩:=h;refine⟨_,qc2 (qe5 (qb8 xf7 (pxN ix_list (pv 0) qa3) qa3 (qb6 _))
    (qc2 (psN 2 scDigit.nd (qa6 qr2 (pxN ix_list (pv 0) qa3) (pv 1)))
    (qc2 (qr1 (qa6 qf8 (pxN ix_list (pv 0) qa3) (pv 1)) (qT9 (pv 0) qa3 qL2))
    (qa9 (qb1 (pv 2))))) qb7)
   (qc2 (qr1 (qa6 qr2 (qa6 qb5 (qa6 qd6 (pxN ix_list (pv 0) qa3) qa3) qa3) qa3) (qT9 (pv 0) qa3 qL2))
   (qa9 (qb1 (qa6 qr2 (qa6 qf8 (pxN ix_list (pv 0) qa3) qa3) (pv 1))))),?_⟩
  have sq:∀{H':Hp}{xs:List V},H' p=some (.lst xs)->SqL K H' p xs:=λh=>SqL.of h;have fin:∀(d x y:Int),0<=d->d<(n:Int)->0<=x->0<=y->y<2^40->Q (.int d) (upd H p (.lst [.int x,.int y])):=λd x y d0 d1 x0 y0 y1=>by
   have:=q d.toNat (upd H p (.lst [.int x,.int y])) (by lia) But.upd ⟨x,y,qa1,x0,y0,y1⟩
   rwa [show ((d.toNat:Nat):Int)=d by lia] at this
  have hn0:(0:Int)<n:=by lia
  refine⟨_,rfl,p,_,0,_,rfl,rfl,sq hp,rfl,_,_,rfl,rfl,_,rfl,?_⟩;refine ite2 (λhc=>?_) (λhc=>?_)
  ·refine⟨_,rfl,p,_,0,_,rfl,rfl,sq hp,rfl,_,rfl,_,_,rfl,rfl,hn0,?_⟩;refine⟨_,rfl,p,_,0,_,rfl,rfl,sq hp,rfl,_,rfl,_,_,rfl,rfl,⟨hn0,by lia⟩,_,rfl,p,_,0,0,rfl,rfl,hp,rfl,?_⟩;refine⟨_,rfl,?_⟩;exact fin _ _ _ (Vg _ (by lia)) (X4 _ hn0) (Int.ediv_nonneg ha (by lia)) hb kE
  ·refine⟨_,rfl,p,_,1,_,rfl,rfl,sq hp,rfl,_,_,rfl,rfl,.inl ⟨by lia,by lia⟩,_,_,rfl,rfl,_,_,rfl,rfl,(by show (0:Int)<2147483629;decide),_,rfl,p,_,1,1,rfl,rfl,hp,rfl,?_⟩;have m1:0<=(b*48271+8191)%2147483629/\(b*48271+8191)%2147483629<2147483629:=⟨Vg _ (by decide),X4 _ (by decide)⟩;refine⟨_,rfl,p,_,1,_,rfl,rfl,sq qa1,rfl,_,_,rfl,rfl,⟨by decide,by decide⟩,_,rfl,_,_,rfl,rfl,hn0,?_⟩;exact fin _ _ _ (Vg _ (by lia)) (X4 _ hn0) ha m1.1 (by lia)
theorem scPot:FnScope ["_law_script", "_law_k", "_law_cell"] ["_law_script", "_law_k"] (qa5 lPot):=qd4
inductive spPot_(K:PySem.W.Frag)(vs:List V)(H:Hp)(Q:VK):Prop
 |mk(a:Addr)(k:Int)(ns:List Int)(e0:vs=[.ref a,.int k])(e1:SqL K H a (ns.map V.int))(e2:ns.length<=63)(e3:0<=k)(e4:k<=1000)(e5:∀(H':Hp)(p:Addr),Same H H'->H p=none->PurseAt H' p->Q (.ref p) H')
def xq7(K:PySem.W.Frag):Sp:=λvs H Q _=>spPot_ K vs H Q
theorem xq8{f:Addr}{fd:FuncData}(F:Fun K "_law_pot" "_law_pot" lPot f fd)(B:Blt mg)(C:Blt2 mg):FnOk P w K mg base CX0 1 f fd ["_law_script", "_law_k"] (xq7 K):=by
 refine F.ok scPot (λvs H Q E h=>?_) (λcdv A outer s H vs Q E hr h=>?_)
 ·obtain⟨a,k,ns,rfl,_⟩:=h
  rfl
 ·obtain⟨a,k,ns,rfl,hS,hl,h0,h1,q⟩:=h;refine seqE ⟨_,⟨psN 2 scPot.nd qa3⟩,?_⟩;refine seqE ⟨_,⟨qe5 (qb8 qp0 (pv 1) (qa8 qd3 (by rfl) B.len ZT (qa0 (pv 0) qa2)) (qb6 _)) (qa9 (psN 2 scPot.nd (pxN ix_list (pv 0) (pv 1)))) qb7⟩,?_⟩;refine qg2 ⟨_,⟨qb1 (qk8 (Ars2.go (.cons ⟨qa8 (qC9 rfl) (by rfl) B.max Wm (qa0 qa3 (qa0 (qa6 qc9 (qa8 qL0 (by rfl) C.abs PyProof.Rows.boot_abs (qa0 (pv 2) qa2)) (qa6 xn8 qa3 qa3)) qa2))⟩
    (.cons ⟨qa6 qb5 (qa6 qb5 (qa6 qr2 (qa8 qL0 (by rfl) C.abs PyProof.Rows.boot_abs (qa0 (pv 2) qa2)) qa3) (qa6 qd6 qa3 (pv 1))) qa3⟩ .nil rfl) rfl)))⟩,?_⟩
  have fin:∀(z:Int)(p:Addr),H p=none->Q (.ref p) (upd H p (.lst [.int (if (if z<0 then -z else z)-10^18>0 then (if z<0 then -z else z)-10^18 else 0),.int ((if z<0 then -z else z)%2147483629+97*k+1)])):=λz p hp=>by
   refine q _ p (qb0 hp) hp ⟨_,_,qa1,?_,?_,?_⟩
   ·split<;>lia
   ·lia
   ·lia
  refine⟨_,rfl,_,rfl,a,_,rfl,.inl hS,_,_,rfl,rfl,_,rfl,?_⟩;refine ite2 (λhc=>?_) (λhc=>?_)
  ·have hk:k<(ns.length:Int):=by
    have:=ZG hc;simpa using this
   have hkn:k.toNat<ns.length:=by lia
   refine⟨_,rfl,_,rfl,a,_,k,.int (ns[k.toNat]),rfl,rfl,hS,?_,?_⟩
   ·have:=qg7 (xs:=ns.map V.int) (j:=k.toNat) (v:=.int (ns[k.toNat])) (by simp[hkn]);rw[show ((k.toNat:Nat):Int)=k by lia] at this;exact this
   ·refine⟨_,rfl,_,rfl,_,_,rfl,rfl,⟨by decide,by decide,by decide⟩,_,_,rfl,rfl,_,_,rfl,?_⟩;exact⟨_,rfl,_,rfl,_,_,rfl,rfl,(by show (0:Int)<2147483629;decide),_,rfl,_,_,rfl,rfl,.inl ⟨by decide,by decide⟩,_,_,rfl,rfl,_,_,rfl,rfl,(by show 2<=sizeLine;decide),λp hp=>fin _ p hp⟩
  ·refine⟨_,rfl,_,rfl,_,_,rfl,rfl,⟨by decide,by decide,by decide⟩,_,_,rfl,rfl,_,_,rfl,?_⟩;exact⟨_,rfl,_,rfl,_,_,rfl,rfl,(by show (0:Int)<2147483629;decide),_,rfl,_,_,rfl,rfl,.inl ⟨by decide,by decide⟩,_,_,rfl,rfl,_,_,rfl,rfl,(by show 2<=sizeLine;decide),λp hp=>fin _ p hp⟩
end
end Pr
namespace Qf
theorem qB2(k:Nat):(1:Int)*2^((k:Int)).toNat=((2^k:Nat):Int):=by
 rw[YG,Vj];push_cast;rfl
theorem qN5{n:Nat}(h:n<=12):2^n<=4096/\0<2^n:=⟨by
 have:=XB (n:=2) (by decide) h;simpa using this,W3 (by decide)⟩
end Qf
namespace Qf
open Tr
def qw2(r c s:Nat)(b:Row):Bool:=decide (b.getD 0 0<r+s/\r<b.getD 0 0+b.getD 2 0/\c<b.getD 1 0+b.getD 3 0/\b.getD 1 0<c+s)
def hasB(r c s:Nat)(b:Row):Bool:=decide (b.getD 0 0<=r/\r+s<=b.getD 0 0+b.getD 2 0/\b.getD 1 0<=c/\c+s<=b.getD 1 0+b.getD 3 0)
def mk(a b c d:Tr):Tr:=if a=z/\b=z/\c=z/\d=z then z else if a=o/\b=o/\c=o/\d=o then o else .nd a b c d
def met(boxes:List Row)(r c s:Nat):List Row:=boxes.filter (qw2 r c s)
def bt:Nat->List Row->Nat->Nat->Tr
 |0,boxes,r,c=>if met boxes r c 1=[] then z else if (met boxes r c 1).any (hasB r c 1) then o else z
 |k+1,boxes,r,c=>if met boxes r c (2^(k+1))=[] then z else if (met boxes r c (2^(k+1))).any (hasB r c (2^(k+1))) then o else
   mk (bt k (met boxes r c (2^(k+1))) r c) (bt k (met boxes r c (2^(k+1))) r (c+2^k)) (bt k (met boxes r c (2^(k+1))) (r+2^k) c) (bt k (met boxes r c (2^(k+1))) (r+2^k) (c+2^k))
theorem q25{a b c d:Tr}(ha:Red a)(hb:Red b)(hc:Red c)(hd:Red d):Red (mk a b c d):=by
 unfold mk;split
 ·trivial
 ·split
  ·trivial
  ·exact⟨by assumption,by assumption,ha,hb,hc,hd⟩
theorem qG5:∀(k:Nat)(boxes:List Row)(r c:Nat),Red (bt k boxes r c)
 |0,boxes,r,c=>by
  unfold bt;split
  ·trivial
  ·split<;>trivial
 |k+1,boxes,r,c=>by
  unfold bt;split
  ·trivial
  ·split
   ·trivial
   ·exact q25 (qG5 k _ _ _) (qG5 k _ _ _) (qG5 k _ _ _) (qG5 k _ _ _)
theorem qN6{a b c d:Tr}{k:Nat}(ha:dep a<=k)(hb:dep b<=k)(hc:dep c<=k)(hd:dep d<=k):dep (mk a b c d)<=k+1:=by
 unfold mk;split
 ·show 0<=_;lia
 ·split
  ·show 0<=_;lia
  ·show 1+mx [dep a,dep b,dep c,dep d]<=k+1;have:=xh9 (l:=[dep a,dep b,dep c,dep d]) (b:=k) (by
    intro x hx;have:x=dep a\/x=dep b\/x=dep c\/x=dep d:=by simpa using hx
    rcases this with rfl|rfl|rfl|rfl<;>assumption)
   lia
theorem qG6:∀(k:Nat)(boxes:List Row)(r c:Nat),dep (bt k boxes r c)<=k
 |0,boxes,r,c=>by
  unfold bt;split
  ·exact Zf 0
  ·split<;>exact Zf 0
 |k+1,boxes,r,c=>by
  unfold bt;split
  ·exact Zx _
  ·split
   ·exact Zx _
   ·exact qN6 (qG6 k _ _ _) (qG6 k _ _ _) (qG6 k _ _ _) (qG6 k _ _ _)
def nds:Tr->Nat
 |.nd a b c d=>1+nds a+nds b+nds c+nds d
 |_=>0
theorem qq0:∀(t:Tr)(e:List Tr),(post t e).length<=e.length+nds t
 |.z,e=>Zf _
 |.o,e=>Zf _
 |.nd a b c d,e=>by
  unfold post;split
  ·exact Xh _ _
  ·have h1:=qq0 a e;have h2:=qq0 b (post a e);have h3:=qq0 c (post b (post a e));have h4:=qq0 d (post c (post b (post a e)));rw[Zi];show _+1<=e.length+(1+nds a+nds b+nds c+nds d);lia
theorem xq9(a b c d:Tr):nds (mk a b c d)<=1+nds a+nds b+nds c+nds d:=by
 unfold mk;split
 ·exact Zx _
 ·split
  ·exact Zx _
  ·exact Zf _
def sz:Nat->Nat
 |0=>0
 |k+1=>4*sz k+1
theorem qR9:∀(k:Nat)(boxes:List Row)(r c:Nat),nds (bt k boxes r c)<=sz k
 |0,boxes,r,c=>by
  unfold bt;split
  ·exact Zx _
  ·split<;>exact Zx _
 |k+1,boxes,r,c=>by
  unfold bt;split
  ·exact Zx _
  ·split
   ·exact Zx _
   ·refine ZH (xq9 _ _ _ _) ?_;have h1:=qR9 k (met boxes r c (2^(k+1))) r c;have h2:=qR9 k (met boxes r c (2^(k+1))) r (c+2^k);have h3:=qR9 k (met boxes r c (2^(k+1))) (r+2^k) c;have h4:=qR9 k (met boxes r c (2^(k+1))) (r+2^k) (c+2^k);show _<=4*sz k+1;lia
def cellT:Nat->Tr->Nat->Nat->Bool
 |0,t,_,_=>decide (t=.o)
 |k+1,t,r,c=>cellT k (qr (2*(r/2^k%2)+c/2^k%2) t) r c
theorem qg8:∀k r c,cellT k .o r c=true
 |0,_,_=>rfl
 |k+1,r,c=>qg8 k r c
theorem qw3:∀k r c,cellT k .z r c=false
 |0,_,_=>rfl
 |k+1,r,c=>qw3 k r c
theorem xj4{a b c e:Tr}{i:Nat}(hi:i<4):qr i (mk a b c e)=qr i (.nd a b c e):=by
 unfold mk;split
 ·rename_i h;obtain⟨rfl,rfl,rfl,rfl⟩:=h
  match i,hi with
  |0,_|1,_|2,_|3,_=>rfl
 ·split
  ·rename_i h;obtain⟨rfl,rfl,rfl,rfl⟩:=h
   match i,hi with
   |0,_|1,_|2,_|3,_=>rfl
  ·rfl
theorem bitl{k i:Nat}(c y:Nat)(h:i<k):(2^k*c+y)/2^i%2=y/2^i%2:=by
 have e:2^k=2^i*(2*2^(k-i-1)):=by
  rw[<- Nat.pow_succ',<- Vk];congr 1;lia
 rw[e,Yx,WB (W3 (by decide)),Yx];lia
theorem qn5:∀(k:Nat)(t:Tr)(a b i j:Nat),cellT k t (2^k*a+i) (2^k*b+j)=cellT k t i j
 |0,_,_,_,_,_=>rfl
 |k+1,t,a,b,i,j=>by
  show cellT k (qr _ t) _ _=cellT k (qr _ t) _ _;rw[bitl a i (ZL k),bitl b j (ZL k)];have e:∀x y:Nat,2^(k+1)*x+y=2^k*(2*x)+y:=λx y=>by rw[Yy,Yx]
  rw[e,e,qn5 k]
abbrev cov(i j:Nat)(b:Row):Bool:=hasB i j 1 b
theorem q26{i j u v s:Nat}{b:Row}(hs:0<s)(hi:i/s=u)(hj:j/s=v)(h:cov i j b=true):qw2 (u*s) (v*s) s b=true:=by
 have h:=ZG h;have a1:u*s<=i:=by rw[<- hi];exact XM i s
 have a2:v*s<=j:=by rw[<- hj];exact XM j s
 have a3:i<u*s+s:=by rw[<- hi];have:=Yj i s;have:=Y6 i hs;rw[Yd s] at *;lia
 have a4:j<v*s+s:=by rw[<- hj];have:=Yj j s;have:=Y6 j hs;rw[Yd s] at *;lia
 exact Zq (by lia)
theorem q27{boxes:List Row}{i j u v s:Nat}(hs:0<s)(hi:i/s=u)(hj:j/s=v):(met boxes (u*s) (v*s) s).any (cov i j)=boxes.any (cov i j):=by
 unfold met;rw[List.any_filter,ZO,Z2,Z2];constructor
 ·rintro⟨b,hb,h⟩;exact⟨b,hb,(XC.mp h).2⟩
 ·rintro⟨b,hb,h⟩;exact⟨b,hb,XC.mpr ⟨q26 hs hi hj h,h⟩⟩
theorem xj5{i j u v s:Nat}{b:Row}(hs:0<s)(hi:i/s=u)(hj:j/s=v)(h:hasB (u*s) (v*s) s b=true):cov i j b=true:=by
 have h:=ZG h;have a1:u*s<=i:=by rw[<- hi];exact XM i s
 have a2:v*s<=j:=by rw[<- hj];exact XM j s
 have a3:i<u*s+s:=by rw[<- hi];have:=Yj i s;have:=Y6 i hs;rw[Yd s] at *;lia
 have a4:j<v*s+s:=by rw[<- hj];have:=Yj j s;have:=Y6 j hs;rw[Yd s] at *;lia
 exact Zq (by lia)
theorem xj6:∀(k:Nat)(boxes:List Row)(u v i j:Nat),i/2^k=u->j/2^k=v->cellT k (bt k boxes (u*2^k) (v*2^k)) i j=boxes.any (cov i j):=by
 intro k
 induction k with
 |zero=>
  intro boxes u v i j hi hj;rw[<- q27 (s:=2^0) (by decide) hi hj];have eu:u*2^0=i:=by rw[<- hi];simp
  have ev:v*2^0=j:=by rw[<- hj];simp
  rw[eu,ev];show decide (bt 0 boxes i j=.o)=_;unfold bt;show decide ((if met boxes i j 1=[] then Tr.z else if (met boxes i j 1).any (hasB i j 1) then Tr.o else Tr.z)=Tr.o)=(met boxes i j 1).any (cov i j);split
  ·rename_i h;rw[h];rfl
  ·split
   ·rename_i h;rw[h];rfl
   ·rename_i h;rw[show (met boxes i j 1).any (cov i j)=false by simpa using h];rfl
 |succ k ih=>
  intro boxes u v i j hi hj;have hs:0<2^(k+1):=W3 (by decide);have hk:0<2^k:=W3 (by decide);rw[<- q27 hs hi hj];unfold bt;split
  ·rename_i h;rw[h,qw3];rfl
  ·split
   ·rename_i h;rw[qg8];obtain⟨b,hb,kE⟩:=Z2.mp h;exact (Z2.mpr ⟨b,hb,xj5 hs hi hj kE⟩).symm
   ·have e2:2^(k+1)=2*2^k:=by rw[Yy,Yd]
    have di:i/2^k=2*u+i/2^k%2:=by
     have:i/2^k/2=u:=by rw[Wh,Yd,<- e2];exact hi
     lia
    have dj:j/2^k=2*v+j/2^k%2:=by
     have:j/2^k/2=v:=by rw[Wh,Yd,<- e2];exact hj
     lia
    generalize met boxes (u*2^(k+1)) (v*2^(k+1)) (2^(k+1))=B;show cellT k (qr (2*(i/2^k%2)+j/2^k%2) (mk _ _ _ _)) i j=_;rw[xj4 (by lia)];have eu:∀x:Nat,x*2^(k+1)=2*x*2^k:=λx=>by rw[e2,WX,<- Yx]
    have eu1:∀x:Nat,2*x*2^k+2^k=(2*x+1)*2^k:=λx=>(WH (2*x) (2^k)).symm;rw[eu,eu,eu1,eu1];have jW:i/2^k%2=0\/i/2^k%2=1:=by lia
    have jK:j/2^k%2=0\/j/2^k%2=1:=by lia
    rcases jW with a|a<;>rcases jK with b|b<;>rw[a,b]<;>rw[a] at di<;>rw[b] at dj
    ·exact ih B (2*u) (2*v) i j (by lia) (by lia)
    ·exact ih B (2*u) (2*v+1) i j (by lia) (by lia)
    ·exact ih B (2*u+1) (2*v) i j (by lia) (by lia)
    ·exact ih B (2*u+1) (2*v+1) i j (by lia) (by lia)
def cor:Tr->Nat->Bool
 |.z,_=>false
 |.o,_=>true
 |.nd a b c d,k=>match k with|0=>cor a 0|1=>cor b 1|2=>cor c 2|_=>cor d 3
structure Four where
 a:Tr
 b:Tr
 c:Tr
 d:Tr
def midF(f:Four):Int:=if (cor f.a 3&&cor f.b 2&&cor f.c 1&&cor f.d 0)=true then 1 else 0
def qg3(up:Bool)(s t:Tr):Four:=if up then ⟨qr 2 s,qr 3 s,qr 0 t,qr 1 t⟩ else ⟨qr 1 s,qr 0 t,qr 3 s,qr 2 t⟩
def acr:Nat->Bool->Tr->Tr->Int
 |0,_,s,t=>if s=.z\/t=.z then 0 else -1
 |m+1,up,s,t=>if s=.z\/t=.z then 0 else if s=.o/\t=.o then -1 else
   (if up then acr m up (qg3 up s t).a (qg3 up s t).c+acr m up (qg3 up s t).b (qg3 up s t).d
    else acr m up (qg3 up s t).a (qg3 up s t).b+acr m up (qg3 up s t).c (qg3 up s t).d)+midF (qg3 up s t)
def ovb(m:Nat)(up:Bool)(f:Four):Int:=if up then acr m up f.a f.c+acr m up f.b f.d else acr m up f.a f.b+acr m up f.c f.d
theorem qs6{m:Nat}{up:Bool}{s t:Tr}(h1:¬(s=.z\/t=.z))(h2:¬(s=.o/\t=.o)):acr (m+1) up s t=ovb m up (qg3 up s t)+midF (qg3 up s t):=by
 show (if s=.z\/t=.z then 0 else _)=_;rw[Zh h1,Zh h2];unfold ovb
 rfl
def togF(m:Nat)(f:Four):Int:=ovb m false f+ovb m true f+midF f
def bal:Tr->Int
 |.z=>0
 |.o=>1
 |.nd a b c d=>bal a+bal b+bal c+bal d+togF (dep (.nd a b c d)-1) ⟨a,b,c,d⟩
theorem qw4{m k:Nat}{t:Tr}(hk:k<4)(h:dep t<=m+1):dep (qr k t)<=m:=xq6 hk _ h
theorem qG7{t:Tr}(h:dep t<=0):t=.z\/t=.o:=dep0 h
theorem qn6:∀(m:Nat)(up:Bool)(s t:Tr),dep s<=m->dep t<=m->acr (m+1) up s t=acr m up s t
 |0,up,s,t,hs,ht=>by
  by_cases h1:s=.z\/t=.z
  ·show (if _ then (0:Int) else _)=if _ then (0:Int) else _
   rw[Zm h1,Zm h1]
  ·have h2:s=.o/\t=.o:=by
    rcases qG7 hs with e|e
    ·exact absurd (.inl e) h1
    ·rcases qG7 ht with e'|e'
     ·exact absurd (.inr e') h1
     ·exact⟨e,e'⟩
   show (if _ then (0:Int) else if _ then (-1:Int) else _)=if _ then (0:Int) else -1
   rw[Zh h1,Zh h1,Zm h2]
 |m+1,up,s,t,hs,ht=>by
  by_cases h1:s=.z\/t=.z
  ·show (if _ then (0:Int) else _)=if _ then (0:Int) else _
   rw[Zm h1,Zm h1]
  ·by_cases h2:s=.o/\t=.o
   ·show (if _ then (0:Int) else if _ then (-1:Int) else _)=if _ then (0:Int) else if _ then (-1:Int) else _
    rw[Zh h1,Zh h1,Zm h2,Zm h2]
   ·rw[qs6 h1 h2,qs6 h1 h2];have q:∀{k:Nat},k<4->dep (qr k s)<=m/\dep (qr k t)<=m:=λhk=>⟨qw4 hk hs,qw4 hk ht⟩;have e:ovb (m+1) up (qg3 up s t)=ovb m up (qg3 up s t):=by
     unfold ovb qg3;cases up
     ·simp only[Zt,ZP];rw[qn6 m false _ _ (q (by decide)).1 (q (by decide)).2,qn6 m false _ _ (q (by decide)).1 (q (by decide)).2]
     ·simp only[Yt];rw[qn6 m true _ _ (q (by decide)).1 (q (by decide)).2,qn6 m true _ _ (q (by decide)).1 (q (by decide)).2]
    rw[e]
theorem qq1{k:Nat}:∀{m:Nat}(up:Bool) (s t:Tr),dep s<=k->dep t<=k->k<=m->acr m up s t=acr k up s t:=by
 intro m up s t hs ht hm;obtain⟨j,rfl⟩:∃j,m=k+j:=⟨m-k,by lia⟩;clear hm
 induction j with
 |zero=>rfl
 |succ j ih=>rw[<- ih];exact qn6 (k+j) up s t (by lia) (by lia)
end Qf
namespace L2
open PySem PySem.Spec PyProof.Rows PySem.W
def ItkT(d:Addr)(kvs:List (List Key×V))(o:Obj):It:=
 ⟨λi H=>H d=some (.frz o (.dT kvs))/\i<kvs.length,λi H x H'=>H'=H/\∃b kv,kvs[i]?=some kv/\x=.ref b/\H b=some (.tup (kv.1.map kV)),λi H=>H d=some (.frz o (.dT kvs))/\i=kvs.length⟩
theorem q28{α β:Type}{R S:α->β->Prop}(h:∀a b,R a b->S a b):∀{l:List α}{m:List β},Paired R l m->Paired S l m:=by
 intro l m pr
 induction pr with
 |nil=>exact .nil
 |cons a1 a2 ih=>exact .cons (h _ _ a1) ih
theorem xj7{H:Hp}:∀{l:List (List Key×V)}{m:List (List Key×Addr×Value)},Paired (λ(p:List Key×V) (q:List Key×Addr×Value)=>p.1=q.1/\H q.2.1=some (.tup (p.1.map kV))/\RelV p.2 q.2.2) l m->∀(i:Nat) p y,l[i]?=some p->m[i]?=some y->H y.2.1=some (.tup (p.1.map kV)):=by
 intro l m pr
 induction pr with
 |nil=>intro i p y h1;simp at h1
 |cons a1 a2 ih=>
  intro i p y h1 h2;cases i with
  |zero=>simp at h1 h2;subst h1;subst h2;exact a1.2.1
  |succ i=>exact ih i p y (by simpa using h1) (by simpa using h2)
theorem q29{P:Program}{w:World}{H:Hp}{h:Heap}{d:Addr}{kvs:List (List Key×V)}{o:Obj}{es:Array DictEntry}{ep:Nat}(ok:HOk P w H h)(e:H d=some (.frz o (.dT kvs)))(j9:o.data=.dict es ep) :
  Bare h d es ep/\es.size=kvs.length/\∀(i:Nat) kv,kvs[i]?=some kv->∃(b:Addr)(en:DictEntry),es[i]?=some en/\en.key=.ref b/\H b=some (.tup (kv.1.map kV)):=by
 obtain⟨ho,z,lo,ys,rel,o2,es2,ep2,k8,hc,jD,ent,uni⟩:=ok d _ e;rw[ho] at k8;cases k8;rw[j9] at jD;cases jD;have hl:kvs.length=ys.length:=YN rel;have ht:es.size=ys.length:=XX ent;refine⟨⟨o,ho,hc,j9⟩,by lia,λi kv hk=>?_⟩;have hi:i<ys.length:=by rw[<- hl];exact (gS_ hk).1
 have hy:ys[i]?=some (ys[i]'hi):=Zd hi;have he:=entry_at ent i;rw[hy] at he;exact⟨_,_,he,rfl,xj7 rel i kv _ hk hy⟩
theorem qS0{P:Program}{w:World}{K:PySem.W.Frag}{tg:Expr}{d it:Addr}{kvs:List (List Key×V)}{o:Obj}{es:Array DictEntry}{ep:Nat}(j9:o.data=.dict es ep)(hs:es.size=kvs.length) :
  Turn P w K tg (ItkT d kvs o) [it] it (λi h=>h.IsKeyIter it d i es.size ep) where
 mem:=by simp
 obj:=λi h st b hb=>by
  have e:b=it:=by simpa using hb
  subst e;obtain⟨q,e,c,f⟩:=st;exact⟨q,e,λv z=>by rw[f] at z;cases z⟩
 keep:=λi h h' st k=>st.at λo e=>k it (by simp) o e
 item:=by
  intro X hP hw hK hc i j1 s σ H E I hf st hg;subst hP hw hK;obtain⟨hd,hi⟩:=hg;obtain⟨bare,_,ats⟩:=q29 I.hok hd j9;obtain⟨f0,f1,f2,f3,f4,f5⟩:=hf it (by simp);have jW:i<es.size:=by lia
  have hk:kvs[i]?=some (kvs[i]'hi):=Zd hi;obtain⟨b,en,e1,e2,e3⟩:=ats i _ hk;have e4:es[i]=en:=by
   rw[WU jW] at e1;exact ZC e1
  refine qG2 st bare jW λh' st' sb=>?_;have I1:Inv X j1 σ H { s with heap:=h' }:=I.turned (t':=s.toks) (λb q hb e=>(sb.2 b hb).trans e) f0 f1 f3 f4 f5;obtain⟨q,e,c,f⟩:=id st';refine⟨es[i].key,rfl,q64 (s:={ s with heap:=h' }) e c f (by decide) ⟨.ref b,H,I1,?_,⟨rfl,b,kvs[i]'hi,hk,rfl,e3⟩,st',λb hb=>(hf b hb).1⟩⟩;rw[e4,e2]
  rfl
 done:=by
  intro X hP hw hK hc i j1 s σ H E I hf st hg;subst hP hw hK;obtain⟨hd,hi⟩:=hg;obtain⟨bare,_,ats⟩:=q29 I.hok hd j9;obtain⟨f0,f1,f2,f3,f4,f5⟩:=hf it (by simp);have e:i=es.size:=by lia
  subst e;exact qN3 (I.ok.hd hc) st bare λh' eb=>⟨rfl,I.turned (t':=s.toks) (λb q hb e=>eb b q hb e) f0 f1 f3 f4 f5⟩
 self:=λ_ _ _ _ _ st h=>wpAny_pyIter_keyiter st h
section
variable{X:Cx}
def xr0(tl:TE):TI:=λσ H R=>tl σ H λx H1=>∃(d:Addr)(kvs:List (List Key×V)),x=.ref d/\H1 d=some (.dT kvs)/\∀o,R (ItkT d kvs o) (upd H1 d (.frz o (.dT kvs)))
theorem qN7{tg l:Expr}{tl:TE}(hl:PE X l tl):PI X tg l (xr0 tl):=by
 intro j1 s σ H R I h;refine thn (hl j1 s σ H _ I h) λv s1 ⟨x,H1,I1,r1,d,kvs,ex,hd,q⟩=>?_;subst ex;cases r1;obtain⟨z,lo,ys,rel,o,es,ep,ho,hx,j9,ent,uni⟩:=(show ObjOk X.prog X.w H1 s1.heap d (.dT kvs) from I1.hok d _ hd);have keepT:∀{b:Addr}{u:List V},H1 b=some (.tup u)->upd H1 d (.frz o (.dT kvs)) b=some (.tup u):=λ{b u} e=>by
  have:b≠d:=λz=>by rw[z,hd] at e;cases e
  rw[qa7 this];exact e
 have rel2:Paired (λ(p:List Key×V) (q:List Key×Addr×Value)=>p.1=q.1/\upd H1 d (.frz o (.dT kvs)) q.2.1=some (.tup (p.1.map kV))/\RelV p.2 q.2.2) kvs ys:=q28 (λa b h=>⟨h.1,keepT h.2.1,h.2.2⟩) rel;have I2:Inv X j1 σ (upd H1 d (.frz o (.dT kvs))) { s1 with heap:=s1.heap,toks:=s1.toks }:=
  I1.write (x:=d) (e:=d) (by rw[hd];exact True.intro) (.inl rfl) (λb u hb e=>e) ⟨o,ho⟩ ⟨ho,z,lo,ys,rel2,o,es,ep,ho,hx,j9,ent,uni⟩
 have hl:kvs.length=ys.length:=YN rel;have ht:es.size=ys.length:=XX ent;refine qG1 (tab:=es) (ep:=ep) lo ⟨o,ho,hx,j9⟩ ?_;refine⟨s1.heap.objs.size,[s1.heap.objs.size],_,_,_,rfl,I2.kept (t':=s1.toks) λb q e=>Zc _ e,qS0 (o:=o) (ep:=ep) j9 (by lia),⟨_,Zj _ rfl,rfl,rfl⟩,λb hb=>?_,q o⟩;have e:b=s1.heap.objs.size:=by simpa using hb
 subst e;exact I2.fpOk (Zf _) (I2.hok.fresh (Zf _))
end
end L2
namespace L2
open PySem
theorem qJ7{J:It}{H:Hp}{n k:Nat}{item:Nat->V->Hp->Prop}{g:TG}{tt:TT}{te:TE}{σ:St}{Fin:Hp->Prop}{D:Addr}(hD:H D=none)(yes:Nat->Bool)(Rel:Nat->V->Hp->Prop)(G:Goes J H n item)(hsz:n<sizeLine)
  (mono:∀i y H1 H2,Tups H1 H2->Rel i y H1->Rel i y H2)
  (step:∀i x H2,i<n->item i x H2->Same H H2->∀os:St,os.length=k->∀(Q1:Hp->Prop)(Q2:VK),(yes i=false->∀H3,Same H2 H3->Q1 H3)->(yes i=true->∀v H3,Same H2 H3->Rel i v H3->Q2 v H3) ->
   g x (os++σ) H2 λσ4 H4=>tt σ4 H4 λb H5=>if b=true then te σ4 H5 Q2 else Q1 H5)
  (fin:∀ys H2,Same H H2->H2 D=some (.lst ys)->ys.length=((List.range n).filter yes).length->(∀(m:Nat) y j,ys[m]?=some y->((List.range n).filter yes)[m]?=some j->Rel j y H2)->Fin H2) :
  ∃W:Nat->Nat->List V->Hp->Prop,(∃m,W 0 m [] (upd H D (.lst []))) /\
   ∀i m xs H2,W i m xs H2->H2 D=some (.lst xs)/\xs.length<sizeLine/\((J.stop i H2/\Fin H2)\/(J.go i H2/\∀y H3,J.yld i H2 y H3->∀os:St,os.length=k ->
    g y (os++σ) H3 λσ4 H4=>tt σ4 H4 λb H5=>if b=true then te σ4 H5 λv H6=>H6 D=some (.lst xs)/\∃m',m'<m/\W (i+1) m' (xs++[v]) (upd H6 D (.lst (xs++[v]))) else ∃m',m'<m/\W (i+1) m' xs H5)):=by
 refine⟨λi m ys H2=>i<=n/\m=n-i/\ys.length=((List.range i).filter yes).length/\H2 D=some (.lst ys)/\Same H H2/\∀(m:Nat) y j,ys[m]?=some y->((List.range i).filter yes)[m]?=some j->Rel j y H2,⟨n,Zx _,rfl,rfl,qa1,qb0 hD,λm y j h=>by simp at h⟩,?_⟩;rintro i m ys H2 ⟨hi,rfl,hl,hd,s2,rel⟩;have j2:ys.length<=i:=by
  rw[hl];exact ZH (Wl _ _) (by simp)
 refine⟨hd,by lia,?_⟩;by_cases he:i=n
 ·subst he;exact .inl ⟨G.st H2 s2,fin ys H2 s2 hd hl rel⟩
 ·refine .inr ⟨G.go i H2 (by lia) s2,λy H3 hy os ho=>?_⟩;obtain⟨s3,it⟩:=G.yl i H2 y H3 (by lia) s2 hy;refine step i y H3 (by lia) it (s2.trans s3) os ho _ _ (λhno H4 s4=>?_) (λhyes v H4 s4 r4=>?_)
  ·have ef:(List.range (i+1)).filter yes=(List.range i).filter yes:=by
    rw[Yb,X8];simp[hno]
   refine⟨n-(i+1),by lia,by lia,rfl,by rw[ef];exact hl,s4 _ _ (s3 _ _ hd),(s2.trans s3).trans s4,λm y j h1 h2=>?_⟩;rw[ef] at h2;exact mono j y H2 H4 (s3.trans s4).tups (rel m y j h1 h2)
  ·have jR:=s4 _ _ (s3 _ _ hd);have ef:(List.range (i+1)).filter yes=(List.range i).filter yes++[i]:=by
    rw[Yb,X8];simp[hyes]
   have tk:Tups H4 (upd H4 D (.lst (ys++[v]))):=λb u e=>by
    have:b≠D:=λz=>by subst z;rw[jR] at e;cases e
    rw[qa7 this];exact e
   refine⟨jR,n-(i+1),by lia,by lia,rfl,by rw[ef,Zi,Zi,hl];rfl,qa1,λb o e=>?_,λm z j h1 h2=>?_⟩
   ·rw[qa7 (qa4 e hD)];exact s4 _ _ (s3 _ _ (s2 _ _ e))
   ·rw[ef] at h2;by_cases hm:m<ys.length
    ·rw[Zo hm] at h1;rw[Zo (by lia)] at h2;exact mono j z H4 _ tk (mono j z H2 H4 (s3.trans s4).tups (rel m z j h1 h2))
    ·have hm2:m=ys.length:=by
      have:=(gS_ h1).1;simp at this;lia
     rw[Zk (by lia),hm2] at h1;rw[Zk (by lia),hm2,hl] at h2;have e1:z=v:=by simpa using h1.symm
     have e2:j=i:=by simpa using h2.symm
     rw[e1,e2];exact mono i v H4 _ tk r4
end L2
namespace Pr
open PySem L2 Qf
def corV(t:Tr):List V:=[.bl (cor t 0),.bl (cor t 1),.bl (cor t 2),.bl (cor t 3)]
def CorL(H:Hp)(D:Addr)(rows:List Row)(n:Nat):Prop:=∃bs:List Addr,H D=some (.lst (bs.map V.ref))/\bs.length=n+2/\∀(x:Nat) b,bs[x]?=some b->H b=some (.tup (corV (T rows x)))
theorem qN8{f:St->Hp->Prop}{σ σ':St}{H:Hp}(e:σ=σ')(h:f σ' H):f σ H:=by rw[e];exact h
theorem CorL.same{H H':Hp}{D:Addr}{rows:List Row}{n:Nat}(h:CorL H D rows n)(s:Same H H'):CorL H' D rows n:=by
 obtain⟨bs,h1,h2,h3⟩:=h;exact⟨bs,s _ _ h1,h2,λx b e=>s _ _ (h3 x b e)⟩
section
variable{P:Program}{w:World}{K:PySem.W.Frag}{mg:Str->Option Value}{base:Heap}
abbrev nCo:List Str:=["rows", "corners", "row"]
theorem scCo:FnScope nCo ["rows"] (qa5 qn0):=qd4
inductive spCor_(vs:List V)(H:Hp)(Q:VK):Prop
 |mk(p:Addr)(rows:List Row)(e0:vs=[.ref p])(e1:RowsAt H p rows)(e2:qb3 rows)(e3:rows.length<=10000)(e4:∀H' D,Same H H'->H D=none->CorL H' D rows rows.length->Q (.ref D) H')
def xr1:Sp:=λvs H Q _=>spCor_ vs H Q
theorem xr2{f:Addr}{fd:FuncData}(F:Fun K "corners_of" "corners_of" qn0 f fd)(B:Blt mg):FnOk P w K mg base CX0 1 f fd ["rows"] xr1:=by
 refine F.ok scCo (λvs H Q E h=>?_) (λcdv A outer s H vs Q E hr h=>?_)
 ·obtain⟨p,rows,rfl,_⟩:=h
  rfl
 ·obtain⟨p,rows,rfl,hR,ok,hn,q⟩:=h;refine seqE ⟨_,⟨psN 1 scCo.nd (@qk8 _ _ _ _ (Ars2.go (.cons ⟨qa6 qA2 (qc1 (qa0 qk6 qa2)) qa3⟩ (.cons ⟨qa6 qA2 (qc1 (qa0 qk6 qa2)) qa3⟩ .nil rfl) rfl)))⟩,?_⟩;refine seqE ⟨_,⟨qh0 Z0 rfl (qt3 (pv 0)) (pgN 2 scCo.nd)
    (StB.go (.one ⟨ql0 (xg4 Wb XR XS qm2 (pv 1) (qa0 (PEb.go ⟨qc3 (tupO K rfl) (by rfl) B.tuple ZM
     (qa0 (qs0 nCo (qa5 qn0) rfl rfl rfl scCo.nd (qz9 (by rfl) B.enum (qa0 (pv 2) qa2)) (λcl C fp s₀ H₀=>PEb.go ⟨pxN (ixT K rfl) (PEb.go ⟨pxN (ixL K rfl) (pv 3) (pv 1)⟩) (pv 0)⟩)) qa2)⟩) qa2))⟩))⟩,?_⟩
  refine qg2 ⟨_,⟨qb1 (pv 1)⟩,?_⟩;refine⟨(by show 1<=sizeLine;decide),λk1 vA=>⟨k1,4,.bl false,rfl,rfl,qa1,by decide,by decide,λp1 v0=>?_⟩⟩;have s1:Same H (upd (upd H k1 (.tup [.bl false])) p1 (.tup (corV .z))):=(qb0 vA).trans (qb0 v0);have h1:upd (upd H k1 (.tup [.bl false])) p1 (.tup (corV .z)) p1=some (.tup (corV .z)):=qa1;refine (λ(go:∀H1,Same H H1->H1 p1=some (.tup (corV .z))->_)=>go _ s1 h1) ?_;clear s1 h1;intro H1 s1 h1;refine⟨(by show 1<=sizeLine;decide),λk2 vJ=>⟨k2,4,.bl true,rfl,rfl,qa1,by decide,by decide,λp2 jQ=>?_⟩⟩;have s2:Same H1 (upd (upd H1 k2 (.tup [.bl true])) p2 (.tup (corV .o))):=(qb0 vJ).trans (qb0 jQ);have h2:upd (upd H1 k2 (.tup [.bl true])) p2 (.tup (corV .o)) p2=some (.tup (corV .o)):=qa1;refine (λ(go:∀H2,Same H1 H2->H2 p2=some (.tup (corV .o))->_)=>go _ s2 h2) ?_;clear s2 h2;intro H2 s2 h2;refine⟨(by show 2<=sizeLine;decide),λD hD=>?_⟩;have s02:=s1.trans s2;have hDH:H D=none:=by
   cases e:H D with
   |none=>rfl
   |some o=>rw[s02 _ _ e] at hD;cases hD
  have hc0:CorL (upd H2 D (.lst [.ref p1,.ref p2])) D rows 0:=⟨[p1,p2],qa1,rfl,λx b e=>by
   match x,e with
   |0,e=>cases e;rw[qf1];exact qb4 (s2 _ _ h1) hD
   |1,e=>cases e;rw[qh7];exact qb4 h2 hD
   |x+2,e=>cases e⟩
  have s3:Same H (upd H2 D (.lst [.ref p1,.ref p2])):=s02.trans (qb0 hD);obtain⟨bs,hp,j2,j6⟩:=id hR;have jH:(bs.map V.ref).length=rows.length:=by rw[Ze];exact j2
  refine⟨_,rfl,p,rfl,⟨_,SqT.of (s3 _ _ hp)⟩,qz1 (K:=K) (a:=p) (xs:=bs.map V.ref) (λi σ H4=>Same H H4/\CorL H4 D rows i/\∃v2,σ=[some (.ref p),some (.ref D),v2])
   ⟨s3,hc0,none,rfl⟩ (λi σ H4 _ ⟨s4,_⟩=>SqT.of (s4 _ _ hp)) ?_ ?_⟩
  ·rintro i y σ H4 hy ⟨s4,hc4,v2,rfl⟩;have hi:i<rows.length:=by rw[<- jH];exact (gS_ hy).1
   rw[Zg] at hy;obtain⟨b,hb,rfl⟩:=Zl.mp hy;have j8:rows[i]?=some rows[i]:=by simp[hi]
   have jV:=s4 _ _ (j6 i b rows[i] hb j8);obtain⟨a0,a1,a2,a3,er⟩:=L2.os4 (ok i _ j8).1;rw[er] at j8 jV;have rk:=ok i _ j8;have eT:T rows (i+2)=.nd (T rows a0) (T rows a1) (T rows a2) (T rows a3):=qi3 ok j8;obtain⟨cs,kU,jS,hce⟩:=id hc4;refine⟨_,rfl,.inl ⟨rfl,_,SqL.of kU⟩,_,rfl,b,rfl,⟨_,SqT.of jV⟩,λD2 k6=>qk1 k6 (λ_=>true) (λj=>.bl (cor (T rows ([a0,a1,a2,a3].getD j 0)) j)) (qu9 (K:=K) jV) (by rw[qg5];show 4<sizeLine;decide) ?_ ?_⟩
   ·rintro j x H5 hj ⟨t,y,rfl,hy,ht⟩ s5 os ho Q1 Q2 q1 q2;obtain⟨o1,o2,rfl⟩:=L2.os2 ho;obtain⟨m,hm,rfl⟩:=qv2 hy;have hj4:j<4:=(gS_ hm).1;have em:[a0,a1,a2,a3].getD j 0=m:=by rw[ZD,hm];rfl
    have j5:=rk.2 m (Zy hm);have kM:cs[m]?=some (cs[m]'(by lia)):=Zd (by lia);have hct:=s5 _ _ (hce m _ kM);generalize cs[m]'(by lia)=ca at kM hct;rw[em] at q2;refine⟨t,_,rfl,SqT.of ht,rfl,_,_,rfl,_,_,rfl,rfl,?_⟩;refine iteT (B:=Q1 H5) ?_;refine⟨_,rfl,_,rfl,D,_,(m:Int),.ref ca,rfl,rfl,SqL.of (s5 _ _ kU),qg7 (by rw[Zg,kM];rfl),_,rfl,ca,_,(j:Int),.bl (cor (T rows m) j),rfl,rfl,SqT.of hct,?_,q2 rfl _ (Same.refl _)⟩
    match j,hj4 with
    |0,_|1,_|2,_|3,_=>rfl
   ·intro H5 s5 jX;have ev:(((List.range (vN [a0,a1,a2,a3]).length).filter λ_=>true).map λj=>V.bl (cor (T rows ([a0,a1,a2,a3].getD j 0)) j))=corV (T rows (i+2)):=by rw[eT];rfl
    rw[ev] at jX;refine⟨D2,_,rfl,.inl ⟨SqL.of jX,λl hl=>?_⟩⟩;refine⟨D,_,.ref l,rfl,rfl,qb4 (s5 _ _ kU) hl,by rw[Ze,jS];exact qi0 (by lia),?_⟩;have nD:∀b o,H b=some o->b≠D:=λb o e=>qa4 e hDH;refine⟨λb o e=>by rw[qa7 (nD b o e)];exact qb4 (s5 _ _ (s4 _ _ e)) hl,⟨cs++[l],by rw[qa1,ZE];rfl,by rw[Zi,jS];rfl,λx c e=>?_⟩,_,rfl⟩;have key:upd (upd H5 l (.tup (corV (T rows (i+2))))) D (.lst (cs.map V.ref++[.ref l])) c=upd H5 l (.tup (corV (T rows (i+2)))) c\/c=D:=by
     by_cases z:c=D
     ·exact .inr z
     ·exact .inl (qa7 z)
    by_cases hx:x<cs.length
    ·rw[Zo hx] at e;have hc:=qb4 (u:=.tup (corV (T rows (i+2)))) (s5 _ _ (hce x c e)) hl;rcases key with k|k
     ·rw[k];exact hc
     ·rw[k,qb4 (s5 _ _ kU) hl] at hc;cases hc
    ·have hx2:x=i+2:=by
      have:=(gS_ e).1;rw[Zi] at this;simp at this;lia
     subst hx2;rw[Zk (by lia),jS] at e;simp at e;subst e;rcases key with k|k
     ·rw[k];exact qa1
     ·rw[k,s5 _ _ kU] at hl;cases hl
  ·rintro σ H4 ⟨s4,hc4,v2,rfl⟩;rw[jH] at hc4;exact⟨_,rfl,q H4 D s4 hDH hc4⟩
end
end Pr
namespace L2
open PySem PySem.Spec PyProof.Rows
structure VKind(prog:Program)(w:World)(K:Type)[DecidableEq K] where
 is:Heap->K->Value->Prop
 hash:K->Int
 draws:K->Nat
 lvl:Nat
 inj:∀{h:Heap}{v:Value}{x y:K},is h x v->is h y v->x=y
 keeps:∀{h h':Heap}{k:K}{v:Value}{d:Addr}{o:Obj}{es ep},is h k v->h.get? d=some o->o.data=.dict es ep->Heap.SameBut d h h'->is h' k v
 pyHash:∀{A:Around}{E:Value->Shared->Prop}{s:Shared}{k:K}{v:Value}{Q:Int->Shared->Prop},A.units+lvl<cLine->is s.heap k v->Q (hash k) { s with toks:=s.toks+draws k }->wpAny (model prog w) A (PySem.pyHash v) Q E s
 eqBool:∀{A:Around}{E:Value->Shared->Prop}{s:Shared}{x y:K}{v u:Value}{Q:Bool->Shared->Prop},A.units+lvl<cLine->is s.heap x v->is s.heap y u->Q (decide (x=y)) s->wpAny (model prog w) A (PySem.eqBool v u) Q E s
 quiet:∀{n:Nat}{A:Around}{E:Value->Shared->Prop}{s:Shared}{k:K}{v:Value}{Q:Bool->Shared->Prop},lvl<=n->is s.heap k v->Q true s->wpAny (model prog w) A (eqIsQuiet n v) Q E s
section
variable{prog:Program}{w:World}{K:Type}[DecidableEq K]
inductive ItemsP(h:Heap):(Nat->VKind prog w K)->List K->List Value->Prop
 |nil {kd}:ItemsP h kd [] []
 |cons {kd:Nat->VKind prog w K}{k:K}{v:Value}{ks:List K}{vs:List Value}:(kd 0).is h k v->ItemsP h (λi=>kd (i+1)) ks vs->ItemsP h kd (k::ks) (v::vs)
def qe9:(Nat->VKind prog w K)->List K->List Int
 |_,[]=>[]
 |kd,k::ks=>(kd 0).hash k::qe9 (λi=>kd (i+1)) ks
def qn7:(Nat->VKind prog w K)->List K->Nat
 |_,[]=>0
 |kd,k::ks=>(kd 0).draws k+qn7 (λi=>kd (i+1)) ks
theorem ItemsP.inj{h:Heap}{kd:Nat->VKind prog w K}{x y:List K}{vs:List Value}(hx:ItemsP h kd x vs)(hy:ItemsP h kd y vs):x=y:=by
 induction hx generalizing y with
 |nil=>cases hy;rfl
 |@cons kd k v ks vs h1 _ ih=>
  cases hy with
  |cons h2 t2=>rw[(kd 0).inj h1 h2,ih t2]
theorem ItemsP.keeps{h h':Heap}{d:Addr}{o:Obj}{es ep} (ho:h.get? d=some o) (hd:o.data=.dict es ep) (hs:Heap.SameBut d h h'){kd:Nat->VKind prog w K}{x:List K}{vs:List Value}(hx:ItemsP h kd x vs):ItemsP h' kd x vs:=by
 induction hx with
 |nil=>exact .nil
 |@cons kd k v ks vs h1 _ ih=>exact .cons ((kd 0).keeps h1 ho hd hs) ih
def IsTupP(kd:Nat->VKind prog w K)(h:Heap)(ks:List K)(v:Value):Prop:=∃a o items n,v=.ref a/\h.get? a=some o/\o.cls=.type "tuple" /\ o.data=.seq items n/\ItemsP h kd ks items.toList
theorem IsTupP.inj{kd:Nat->VKind prog w K}{h:Heap}{v:Value}{x y:List K}(hx:IsTupP kd h x v)(hy:IsTupP kd h y v):x=y:=by
 obtain⟨a,o,items,n,rfl,ho,_,hd,hi⟩:=hx;obtain⟨a',o',items',n',e,ho',_,hd',hi'⟩:=hy;cases e;obtain rfl:o=o':=ZC (ho.symm.trans ho');rw[hd] at hd';injection hd' with h1 _
 subst h1;exact hi.inj hi'
theorem IsTupP.keeps{kd:Nat->VKind prog w K}{h h':Heap}{ks:List K}{v:Value}{d:Addr}{o:Obj}{es ep} (x:IsTupP kd h ks v) (ho:h.get? d=some o) (hd:o.data=.dict es ep) (hs:Heap.SameBut d h h'):IsTupP kd h' ks v:=by
 obtain⟨a,o',items,n,rfl,ho',hc,hd',hi⟩:=x;have jB:a≠d:=by
  rintro rfl;obtain rfl:o'=o:=ZC (ho'.symm.trans ho);rw[hd] at hd';exact nomatch hd'
 exact⟨a,o',items,n,rfl,(hs.2 a jB).trans ho',hc,hd',hi.keeps ho hd hs⟩
variable{A:Around}{E:Value->Shared->Prop}{s:Shared}
def xj8(kd:Nat->VKind prog w K)(ks:List K):Int:=reduceHash (Builtin.Tuple.tupleHashOf (qe9 kd ks))
theorem xj9{kd:Nat->VKind prog w K}{l:Nat}(hl:∀i,(kd i).lvl<=l){ks:List K}{v:Value}{Q:Int->Shared->Prop}(hu:A.units+(l+1)<cLine)(hk:IsTupP kd s.heap ks v)(h:Q (xj8 kd ks) { s with toks:=s.toks+(qn7 kd ks+1) }) :
  wpAny (model prog w) A (pyHash v) Q E s:=by
 obtain⟨a,o,items,n,rfl,ho,hc,hd,hi⟩:=hk;have hT:s.TypeIs (.ref a) "tuple":=⟨o,ho,hc⟩;unfold pyHash
 first|unfold pyHashByItsType|skip
 first|refine Za (W4 (.inr (by lia)) ?_)|skip
 refine Za (YX hT Xv.lookup ?_);show wpAny _ _ (if (some (Value.builtin "tuple.__hash__")==some Value.none)=true then _ else _) Q E s;rw[Zh (by rw[beq_builtin_none];exact Zs)];refine Za (YX hT Xv.lookup ?_);show wpAny _ _ (callSpecialIfBoundUnlessNone? (.ref a) "__hash__" _ >>= _) Q E s;refine Za (Xq hT Xv (Z1 Xv hT F.entry_tuple_hash ?_ (F.args_tuple_hash_1 _)));show wpAny _ _ (Builtin.Tuple.tupleItemsOf (.ref a) >>= _) _ _ s;refine Za (WR ho hd ?_);refine Za ?_;rw[<- X5];refine Xg _
  (λrest (b:Array Int) s'=>∃(kd':Nat->VKind prog w K)(left:List K)(t:Nat),(∀i,(kd' i).lvl<=l)/\ItemsP s.heap kd' left rest/\b.toList++qe9 kd' left=qe9 kd ks/\s'={ s with toks:=t }/\t+qn7 kd' left=s.toks+qn7 kd ks)
  _ ?_ ?_ _ _ ⟨kd,ks,s.toks,hl,hi,rfl,rfl,rfl⟩
 ·rintro x rest b s' ⟨kd',left,t,hl',hleft,hb,rfl,ht⟩;cases hleft with
  |@cons _ k _ ks' _ h1 jG=>
   refine Za ((kd' 0).pyHash ?_ h1 ?_)
   ·have:=hl' 0;show A.units+1+(kd' 0).lvl<cLine;lia
   ·have e1:(b.push ((kd' 0).hash k)).toList++qe9 (λi=>kd' (i+1)) ks'=qe9 kd ks:=by rw[<- hb];simp[qe9]
    have e2:t+(kd' 0).draws k+qn7 (λi=>kd' (i+1)) ks'=s.toks+qn7 kd ks:=by rw[<- ht];simp[qn7,Nat.add_assoc]
    first
     |exact Zb ⟨_,ks',_,λi=>hl' (i+1),jG,e1,rfl,e2⟩
     |exact Za (Zb (Zb ⟨_,ks',_,λi=>hl' (i+1),jG,e1,rfl,e2⟩))
 ·rintro b s' ⟨kd',left,t,hl',hleft,hb,rfl,ht⟩;cases hleft;have hb':b.toList=qe9 kd ks:=by rw[<- hb];simp[qe9]
  have ht':t=s.toks+qn7 kd ks:=by rw[<- ht];rfl
  subst ht';show wpAny _ _ (retInt (Builtin.Tuple.tupleHashOf b.toList)) _ _ _;rw[hb'];refine WA ?_;show wpAny _ _ (if (decide (-(2:Int)^63<=Builtin.Tuple.tupleHashOf (qe9 kd ks))&&decide (Builtin.Tuple.tupleHashOf (qe9 kd ks)<2^63))=true then _ else _) Q E _;unfold xj8 reduceHash at h;by_cases hr:(decide (-(2:Int)^63<=Builtin.Tuple.tupleHashOf (qe9 kd ks))&&decide (Builtin.Tuple.tupleHashOf (qe9 kd ks)<2^63))=true
  ·rw[Zm hr];rw[Zm hr] at h;exact Zb (by simpa [Nat.add_assoc] using h)
  ·rw[Zh hr];rw[Zh hr] at h;exact Za (WN (Zb (by simpa [Nat.add_assoc] using h)))
theorem q97{kd:Nat->VKind prog w K}{l:Nat}(hl:∀i,(kd i).lvl<=l)(hu:A.units+l<cLine){x y:List K}{a b:Addr}{P:Fin->Shared->Prop}(hx:IsTupP kd s.heap x (.ref a))(hy:IsTupP kd s.heap y (.ref b))(h:P (.done (.ret (.bool (decide (x=y))))) s) :
  wpAny (model prog w) A (Builtin.«tuple.__eq__» ⟨[.ref a,.ref b],[]⟩) P E s:=by
 obtain⟨a',oa,xs,na,ea,hoa,_,hda,hia⟩:=hx;obtain⟨b',ob,ys,nb,eb,hob,hcb,kC,hib⟩:=hy;cases ea;cases eb;have hTb:s.TypeIs (.ref b) "tuple":=⟨ob,hob,hcb⟩;show wpAny _ _ (isInstance (.ref b) (.type "tuple") >>= _) _ _ s;refine Za (Ws hTb isSubtype_tuple_tuple ?_);simp only[YA,Zt,ZP];refine Za (WR hoa hda ?_);refine Za (WR hob kC ?_);refine Za ?_;refine Xg _
  (λrest r s'=>r.1=none/\s'=s/\∃(kd':Nat->VKind prog w K)(x' y':List K)(xs' ys':List Value),rest=List.zip xs' ys'/\(∀i,(kd' i).lvl<=l)/\ItemsP s.heap kd' x' xs'/\ItemsP s.heap kd' y' ys'/\decide (x'=y')=decide (x=y)/\(xs'.length==ys'.length)=(xs.size==ys.size))
  _ ?_ ?_ _ _ ⟨rfl,rfl,kd,x,y,xs.toList,ys.toList,rfl,hl,hia,hib,rfl,by simp⟩
 ·rintro⟨u,v⟩ rest r s' ⟨hr,rfl,kd',x',y',xs',ys',hz,hl',hx',hy',hdec,j2⟩;cases hx' with
  |nil=>simp at hz
  |@cons _ k1 u' x'' xs'' h1 hx''=>
   cases hy' with
   |nil=>simp at hz
   |@cons _ k2 v' y'' ys'' h2 hy''=>
    simp only[WS,Xn,XN] at hz;obtain⟨⟨rfl,rfl⟩,rfl⟩:=hz;refine Za ((kd' 0).eqBool (x:=k1) (y:=k2) (by have:=hl' 0;lia) h1 h2 ?_);by_cases hk:k1=k2
    ·subst hk;rw[Zq rfl];simp only[YA,Zt,ZP];refine Zb ⟨rfl,rfl,_,x'',y'',xs'',ys'',rfl,λi=>hl' (i+1),hx'',hy'',?_,by simpa using j2⟩;rw[<- hdec];by_cases jL:x''=y''
     ·simp[jL]
     ·simp[jL]
    ·rw[Zp hk];simp only[YU,Yt];have hf:decide (x=y)=false:=by rw[<- hdec];simp[hk]
     rw[hf] at h;exact Za (Zb (Zb (Zb h)))
 ·rintro⟨r1,r2⟩ s' ⟨hr,rfl,kd',x',y',xs',ys',hz,hl',hx',hy',hdec,j2⟩;simp only at hr;subst hr;refine Zb ?_;have hfin:(xs.size==ys.size)=decide (x=y):=by
   rw[<- hdec,<- j2];cases hx' with
   |nil=>
    cases hy' with
    |nil=>simp
    |cons _ _=>simp
   |cons _ _=>
    cases hy' with
    |nil=>simp
    |cons _ _=>simp at hz
  show P (.done (.ret (.bool (xs.size==ys.size)))) s';rw[hfin];exact h
theorem IsTupP.typeIs{kd:Nat->VKind prog w K}{ks:List K}{a:Addr}(x:IsTupP kd s.heap ks (.ref a)):s.TypeIs (.ref a) "tuple":=by
 obtain⟨a',o,_,_,e,ho,hc,_⟩:=x;cases e;exact⟨o,ho,hc⟩
theorem xk0{kd:Nat->VKind prog w K}{l:Nat}(hl:∀i,(kd i).lvl<=l){x y:List K}{v u:Value}{Q:Bool->Shared->Prop}(hu:A.units+(l+1)<cLine)(hx:IsTupP kd s.heap x v)(hy:IsTupP kd s.heap y u)(h:Q (decide (x=y)) s) :
  wpAny (model prog w) A (eqBool v u) Q E s:=by
 obtain⟨a,rfl⟩:∃a,v=.ref a:=let ⟨a,_,_,_,e,_⟩:=hx;⟨a,e⟩;obtain⟨b,rfl⟩:∃a,u=.ref a:=let ⟨a,_,_,_,e,_⟩:=hy;⟨a,e⟩;unfold eqBool
 try with_reducible refine Z3 ?_
 show wpAny _ _ (if (Value.ref a==Value.ref b)=true then _ else _) Q E s;by_cases hab:(Value.ref a==Value.ref b)=true
 ·rw[Zm hab];have e:a=b:=by have:=eq_of_beq hab;injection this
  subst e;obtain rfl:=hx.inj hy;exact Za (WN (Zb (by simpa using h)))
 ·rw[Zh hab];exact Za (wpAny_richCompare_same_room (op:=.Eq) hx.typeIs hy.typeIs F.slot_tuple_eq
   (Z1 F.slot_tuple_eq hx.typeIs F.entry_tuple_eq (q97 hl (by show A.units+1+l<cLine;lia) hx hy ⟨_,rfl,(λe=>nomatch e),ZX h⟩) (F.args_tuple_eq_2 _ _)) (by lia))
theorem xr3{kd:Nat->VKind prog w K}{l n:Nat}(hl:∀i,(kd i).lvl<=l)(hn:l<=n){ks:List K}{v:Value}{Q:Bool->Shared->Prop}(hk:IsTupP kd s.heap ks v)(h:Q true s):wpAny (model prog w) A (eqIsQuiet (n+1) v) Q E s:=by
 obtain⟨a,o,items,m,rfl,ho,hc,hd,hi⟩:=hk;have hT:s.TypeIs (.ref a) "tuple":=⟨o,ho,hc⟩;unfold eqIsQuiet;refine Za (YX hT F.slot_tuple_eq.lookup ?_);show wpAny _ _ (isInstance (.ref a) (.type "tuple") >>= _) _ _ s;refine Za (Ws hT isSubtype_tuple_tuple ?_);simp only[YA,Zt,ZP];refine Za (WL ho hd ?_);refine Za ?_;show wpAny _ _ (forIn items _ _) _ _ s;rw[<- X5];refine Xg _ (λrest r s'=>r.1=none/\s'=s/\∃(kd':Nat->VKind prog w K)(left:List K),(∀i,(kd' i).lvl<=l)/\ItemsP s.heap kd' left rest) _ ?_ ?_ _ _ ⟨rfl,rfl,kd,ks,hl,hi⟩
 ·rintro v rest r s' ⟨hr,rfl,kd',left,hl',jI⟩;cases jI with
  |cons h1 h2=>
   refine Za ((kd' 0).quiet (ZH (hl' 0) hn) h1 ?_);simp only[YA,Zt,ZP];exact Zb ⟨rfl,rfl,_,_,λi=>hl' (i+1),h2⟩
 ·rintro⟨r1,r2⟩ s' ⟨hr,rfl,_⟩;simp only at hr;subst hr;exact Zb h
def posK(kd:Nat->VKind prog w K)(l:Nat)(hl:∀i,(kd i).lvl<=l):VKind prog w (List K) where
 is:=IsTupP kd
 hash:=xj8 kd
 draws ks:=qn7 kd ks+1
 lvl:=l+1
 inj:=IsTupP.inj
 keeps:=IsTupP.keeps
 pyHash:=λhu hk h=>xj9 hl hu hk h
 eqBool:=λhu hx hy h=>xk0 hl hu hx hy h
 quiet:=λ{n} _ _ _ _ _ _ hn hk h=>by
  obtain⟨m,rfl⟩:∃m,n=m+1:=⟨n-1,by lia⟩;exact xr3 hl (by lia) hk h
def VKind.hk(vk:VKind prog w K)(h8:vk.lvl<=8):HeapKind prog w K where
 is h k a:=vk.is h k (.ref a)
 hash:=vk.hash
 draws:=vk.draws
 room A:=A.units+vk.lvl<cLine
 inj:=vk.inj
 keeps:=vk.keeps
 pyHash:=λhu hk h=>vk.pyHash hu hk h
 eqBool:=λhu hx hy h=>vk.eqBool hu hx hy h
 quiet:=λhk h=>vk.quiet h8 hk h
end
structure NKd(K:Type)[DecidableEq K] where
 knd:∀(P:Program)(w:World),VKind P w K
 tl:Hp->K->Addr->Prop
 lv:Nat
 l8:∀P w,(knd P w).lvl=lv
 h8:lv<=8
 of:∀{P:Program}{w:World}{H:Hp}{h:Heap}{k:K}{b:Addr},HOk P w H h->tl H k b->(knd P w).is h k (.ref b)
 mono:∀{H H':Hp}{k:K}{b:Addr},(∀b xs,H b=some (.tup xs)->H' b=some (.tup xs))->tl H k b->tl H' k b
section
variable{K:Type}[DecidableEq K](nk:NKd K)
def NKd.hk(P:Program)(w:World):HeapKind P w K:=(nk.knd P w).hk (by rw[nk.l8];exact nk.h8)
def xk1(P:Program)(w:World)(a:Addr)(xs:List (K×Addr×Value)):Heap->Prop:=λh=>∃o es ep,h.get? a=some o/\o.ExactDict/\o.data=.dict es ep/\es.toList=xs.map (entryOfKey (nk.hk P w))/\(xs.map (·.1)).Nodup
abbrev KN(H:Hp):List (K×V)->List (K×Addr×Value)->Prop:=Paired λp q=>p.1=q.1/\nk.tl H p.1 q.2.1/\RelV p.2 q.2.2
def NestAt(P:Program)(w:World)(H:Hp)(a:Addr)(kvs:List (K×V)):Prop:=∃xs,H a=some (.ext (xk1 nk P w a xs))/\KN nk H kvs xs/\kvs.length<=sizeLine/\(a==sysModules)=false
variable {nk}
theorem KN.val{H:Hp}{kvs:List (K×V)}{xs:List (K×Addr×Value)}(r:KN nk H kvs xs)(k:K):RelO (valV kvs k) ((atKey xs k).map (·.2)):=by
 induction r with
 |nil=>exact True.intro
 |@cons p q ps qs h t ih=>
  obtain⟨h1,_,h2⟩:=h;by_cases e:p.1=k
  ·have e':q.1=k:=h1.symm.trans e;have b:atKey (q::qs) k=some q.2:=by simp[atKey,YH,e']
   rw[qd8 e,b];exact h2
  ·have e':¬q.1=k:=λz=>e (h1.trans z);have b:atKey (q::qs) k=atKey qs k:=by simp[atKey,YH,e']
   rw[qd9 e,b];exact ih
theorem KN.repl{H:Hp}{kvs:List (K×V)}{xs:List (K×Addr×Value)}(r:KN nk H kvs xs)(k:K){y:V}{u:Value}(ry:RelV y u) :
  KN nk H (kvs.map λkv=>if kv.1=k then (kv.1,y) else kv) (xs.map (putAt k u)):=by
 induction r with
 |nil=>exact .nil
 |@cons p q ps qs h t ih=>
  rw[Zz,Zz];refine .cons ?_ ih;obtain⟨h1,h2,h3⟩:=h;unfold putAt;by_cases e:p.1=k
  ·rw[Zm e,Zm (h1.symm.trans e)];exact⟨h1,h2,ry⟩
  ·rw[Zh e,Zh (λz=>e (h1.trans z))];exact⟨h1,h2,h3⟩
theorem KN.put{H:Hp}{kvs:List (K×V)}{xs:List (K×Addr×Value)}(r:KN nk H kvs xs)(k:K){b:Addr}{y:V}{u:Value}(hb:nk.tl H k b)(ry:RelV y u):KN nk H (putK kvs k y) (storedH xs k b u):=by
 have e:(kvs.any λkv=>decide (kv.1=k))=(atKey xs k).isSome:=by
  rw[qe2,(r.val k).isSome_eq,Xu]
 unfold putK storedH;rw[e];by_cases q:(atKey xs k).isSome=true
 ·rw[Zm q,Zm q];exact r.repl k ry
 ·rw[Zh q,Zh q];exact Paired.snoc r ⟨rfl,hb,ry⟩
theorem NestAt.mono{P:Program}{w:World}{H H':Hp}{a:Addr}{kvs:List (K×V)}(h:NestAt nk P w H a kvs)(ht:∀b xs,H b=some (.tup xs)->H' b=some (.tup xs))(ha:∀o,H a=some o->H' a=some o):NestAt nk P w H' a kvs:=by
 obtain⟨xs,h1,h2,h3⟩:=h;exact⟨xs,ha _ h1,Paired.mapP h2 λ_ _ z=>⟨z.1,nk.mono ht z.2.1,z.2.2⟩,h3⟩
theorem qJ8{P:Program}{w:World}{H:Hp}{h:Heap}{a:Addr}{kvs:List (K×V)}(ok:HOk P w H h)(e:NestAt nk P w H a kvs):kvs.length<=sizeLine/\(a==sysModules)=false/\∃xs,KN nk H kvs xs/\h.DictOfH (nk.hk P w) a xs:=by
 obtain⟨xs,h1,r,z,y⟩:=e;obtain⟨⟨o,es,ep,g1,g2,g3,g4,g5⟩,_⟩:=(show ObjOk P w H h a (.ext _) from ok a _ h1);refine⟨z,y,xs,r,o,es,ep,g1,g2,g3,g4,λx hx=>?_,g5⟩;have all:∀{l:List (K×V)}{m:List (K×Addr×Value)},KN nk H l m->∀x∈m,(nk.hk P w).is h x.1 x.2.1:=by
  intro l m q
  induction q with
  |nil=>intro x hx;exact nomatch hx
  |@cons p q ps qs hq t ih=>
   intro x hx;rcases Zv.mp hx with e|hx
   ·subst e;exact nk.of ok (by rw[<- hq.1];exact hq.2.1)
   ·exact ih x hx
 exact all r x hx
section
variable{X:Cx}
theorem xk2{A:Around}{P:Program}{w:World}(hu:A.units+10<cLine):(nk.hk P w).room A.in1:=by
 show A.units+1+(nk.knd P w).lvl<cLine;rw[nk.l8];have:=nk.h8;lia
theorem q30(hu:X.A.units+10<cLine):OpR X (compareOp .NotIn) (λx y H Q=>∃(a b:Addr)(k:K)(kvs:List (K×V)),x=.ref b/\y=.ref a/\NestAt nk X.prog X.w H a kvs/\nk.tl H k b/\Q (.bl (!(valV kvs k).isSome)) H):=by
 intro j1 s σ H x y v u Q I rx ry h;obtain⟨a,b,k,kvs,rfl,rfl,ha,hb,q⟩:=h;cases (show v=Value.ref b from rx);cases (show u=Value.ref a from ry);obtain⟨z,hd,xs,rel,dd⟩:=qJ8 I.hok ha;refine wpAny_notIn_heap (xk2 hu) (nk.of I.hok hb) hd dd ?_;have e:=(rel.val k).isSome_eq;rw[Xu] at e;rw[<- e];exact⟨.bl _,H,I.tok _,rfl,q⟩
theorem xk3(hu:X.A.units+10<cLine):IxR X (λx y H Q=>∃(a b:Addr)(k:K)(kvs:List (K×V))(v:V),x=.ref a/\y=.ref b/\NestAt nk X.prog X.w H a kvs/\nk.tl H k b/\valV kvs k=some v/\Q v H):=by
 intro value slice j1 s σ H x y v u Q I rx ry h hs;obtain⟨a,b,k,kvs,z,rfl,rfl,ha,hb,hv,q⟩:=h;cases (show v=Value.ref a from rx);cases (show u=Value.ref b from ry);obtain⟨_,hd,xs,rel,dd⟩:=qJ8 I.hok ha;obtain⟨w',hw,rw'⟩:=RelO.some_of (v:=z) (o:=(atKey xs k).map (·.2)) (by rw[<- hv];exact rel.val k);obtain⟨p,hp,jQ⟩:=Zl.mp hw;refine Wg (x:=w') dd.typeIs WT.lookup (wpAny_getItem_heap (xk2 hu) (nk.of I.hok hb) dd hp ?_) hs;rw[jQ];exact⟨rfl,z,H,I.tok _,rw',q⟩
theorem q98(hu:X.A.units+10<cLine):PSet X (λo i v H Q=>∃(a b:Addr)(k:K)(kvs:List (K×V)),o=.ref a/\i=.ref b/\NestAt nk X.prog X.w H a kvs/\nk.tl H k b/\kvs.length<sizeLine/\∀H',(∀c u,H c=some u->c≠a->H' c=some u)->NestAt nk X.prog X.w H' a (putK kvs k v)->Q H'):=by
 intro j1 s σ H o i v ov iv u Q I ro ri rv h;obtain⟨a,b,k,kvs,rfl,rfl,ha,hb,hl,q⟩:=h;cases (show ov=Value.ref a from ro);cases (show iv=Value.ref b from ri);obtain⟨z,hd,xs,rel,dd⟩:=qJ8 I.hok ha;obtain⟨_,e,_⟩:=id ha;have hz:xs.length<=sizeLine:=by rw[<- YN rel];exact z
 have jG:(putK kvs k v).length<=sizeLine:=by have:=ql2 kvs k v;lia
 have ht:∀{ob:HO}(c:Addr) (ys:List V),H c=some (.tup ys)->upd H a ob c=some (.tup ys):=λc ys ec=>by
  rw[qa7 (xn2 ec e (λz=>nomatch z))];exact ec
 refine wpAny_setItem_heap (hsz:=hz) (xk2 hu) (nk.of I.hok hb) dd λh' dd' hs=>⟨upd H a (.ext (xk1 nk X.prog X.w a (storedH xs k b u))),?_,q _ (λc u ec n=>by rw[qa7 n];exact ec) ⟨_,qa1,Paired.mapP (rel.put k hb rv) λ_ _ z=>⟨z.1,nk.mono ht z.2.1,z.2.2⟩,jG,hd⟩⟩;obtain⟨q',es,ep,hq,h2,h3,h4,_,h5⟩:=dd';refine qI7 I (by rw[e];exact True.intro) hs ⟨q',hq⟩ ⟨⟨q',es,ep,hq,h2,h3,h4,h5⟩,⟨q',hq⟩,λh1 h2' ⟨o1,es1,ep1,g1,g2⟩ k2=>⟨o1,es1,ep1,k2 _ g1,g2⟩⟩
def xr4(P:Program)(w:World)(nk:NKd K):TE:=λ_ H Q=>∀p,H p=none->∀H',(∀c u,H c=some u->H' c=some u)->H' p≠none->NestAt nk P w H' p []->Q (.ref p) H'
theorem q99{pos:Pos}:PE X (.Dict [] [] pos) (xr4 X.prog X.w nk):=λj1 s σ H Q I h=>by
 have hfr:=I.hok.fresh (Zf s.heap.objs.size);refine wpAny_Dict_empty ⟨.ref s.heap.objs.size,upd H s.heap.objs.size (.ext (xk1 nk X.prog X.w s.heap.objs.size [])),?_,rfl,h _ hfr _ (λc u e=>by rw[qa7 (qa4 e hfr)];exact e) (by rw[qa1];exact λz=>nomatch z) ⟨[],qa1,.nil,Zx _,Yp.mpr (Xc (ZB I.big))⟩⟩;exact I.laid (a:=s.heap.objs.size) (t':=s.toks) (λ_ _ q=>Zc _ q) (Zf _) ⟨⟨_,#[],0,Zj _ rfl,⟨rfl,rfl,rfl⟩,rfl,rfl,YT⟩,⟨_,Zj _ rfl⟩,λh1 h2' ⟨o1,es1,ep1,g1,g2⟩ k2=>⟨o1,es1,ep1,k2 _ g1,g2⟩⟩
end
end
def xr5{prog:Program}{w:World}{K:Type}[DecidableEq K](knd:KeyKind prog w K):VKind prog w K where
 is _ k v:=knd.is k v=true
 hash:=knd.hash
 draws _:=1
 lvl:=0
 inj:=λh h'=>knd.inj _ _ _ h h'
 keeps:=λh _ _ _=>h
 pyHash:=λ_ h q=>knd.pyHash h q
 eqBool:=λ_ h h' q=>knd.eqBool h h' q
 quiet:=λ_ h q=>by
  rw[eqIsQuiet_byValue _ (knd.byValue _ _ h)];exact Zb q
section
variable{prog:Program}{w:World}{A:Around}{E:Value->Shared->Prop}{s:Shared}
def bKey(b:Bool):Key:=Sum.inl (if b then 1 else 0)
theorem qN9{a b:Bool}(h:bKey a=bKey b):a=b:=by
 cases a<;>cases b<;>first|rfl|(exact absurd (Xi h) (by decide))
theorem xr6(s:Shared)(b:Bool):s.TypeIs (.bool b) "bool":=by
 first|rfl|trivial|exact⟨⟩
theorem q31{b:Bool}{Q:Int->Shared->Prop}(h:Q (if b then 1 else 0) { s with toks:=s.toks+1 }):wpAny (model prog w) A (pyHash (.bool b)) Q E s:=by
 have hT:=xr6 s b;unfold pyHash
 first|unfold pyHashByItsType|skip
 first|refine Za (W4 (.inl (by rfl)) ?_)|refine Za (W4 (.inl (by decide)) ?_)|skip
 refine Za (YX hT Wt.lookup ?_);show wpAny _ _ (if (some (Value.builtin "int.__hash__")==some Value.none)=true then _ else _) Q E s;rw[Zh (by rw[beq_builtin_none];exact Zs)];refine Za (YX hT Wt.lookup ?_);show wpAny _ _ (callSpecialIfBoundUnlessNone? (.bool b) "__hash__" _ >>= _) Q E s;refine Za (Xq hT Wt (Z1 Wt hT entry_int_hash ?_ (args_int_hash _)));cases b
 ·refine WA ?_;show wpAny _ _ (pyHashByItsType.reduced 0) Q E _;exact WZ (show pyHashByItsType.reduced 0=pure 0 from rfl) h
 ·refine WA ?_;show wpAny _ _ (pyHashByItsType.reduced 1) Q E _;exact WZ (show pyHashByItsType.reduced 1=pure 1 from rfl) h
theorem xa0{a b:Bool}{Q:Bool->Shared->Prop}(h:Q (decide (a=b)) s):wpAny (model prog w) A (eqBool (.bool a) (.bool b)) Q E s:=by
 unfold eqBool
 try with_reducible refine Z3 ?_
 by_cases e:a=b
 ·subst e;rw[Zm (by simp)];exact Za (WN (Zb (by simpa using h)))
 ·rw[Zh (by cases a<;>cases b<;>first|exact absurd rfl e|decide)];have hq:=h;rw[show decide (a=b)=(a==b) by cases a<;>cases b<;>rfl] at hq;exact Za (eq_bool (ZX hq))
def blK:VKind prog w Key where
 is _ k v:=∃b,k=bKey b/\v=.bool b
 hash k:=match k with|.inl i=>i|.inr _=>0
 draws _:=1
 lvl:=0
 inj:=λ⟨b,e,h⟩ ⟨b',e',h'⟩=>by rw[h] at h';cases h';rw[e,e']
 keeps:=λh _ _ _=>h
 pyHash:=λ_ ⟨b,e,h⟩ q=>by
  subst e h;exact q31 q
 eqBool:=λ_ ⟨b,e,h⟩ ⟨b',e',h'⟩ q=>by
  subst e e' h h';refine xa0 ?_;have:decide (bKey b=bKey b')=decide (b=b'):=by
   rw[decide_eq_decide];exact⟨qN9,λz=>by rw[z]⟩
  rw[<- this];exact q
 quiet:=λ_ ⟨b,e,h⟩ q=>by
  subst h;rw[eqIsQuiet_byValue _ rfl];exact Zb q
end
def xx2(P:Program)(w:World):VKind P w (List Key):=posK (λi=>if i<2 then xr5 (qd5 P w) else blK) 0 (λi=>by split<;>exact Zf _)
def acK:NKd (List Key) where
 knd:=xx2
 tl H k b:=∃(x y:Int)(d:Bool),k=[.inl x,.inl y,bKey d]/\H b=some (.tup [.int x,.int y,.bl d])
 lv:=1
 l8:=λ_ _=>rfl
 h8:=by decide
 of:=by
  rintro P w H h k b ok ⟨x,y,d,rfl,hb⟩;obtain⟨_,its,r,o,h1,h2,m,h3⟩:=(show ObjOk P w H h b (.tup [.int x,.int y,.bl d]) from ok b _ hb);cases r with
  |cons r1 r'=>
   cases r' with
   |cons r2 r''=>
    cases r'' with
    |cons r3 r4=>
     cases r4;refine⟨b,o,_,m.1,rfl,h1,h2,h3,?_⟩;exact .cons (qI6 (k:=.inl x) r1) (.cons (qI6 (k:=.inl y) r2) (.cons ⟨d,rfl,r3⟩ .nil))
 mono:=λht ⟨x,y,d,e,h⟩=>⟨x,y,d,e,ht _ _ h⟩
end L2
namespace L2
open PySem
theorem fldK{X:Cx}{e:Expr}{ta:TE}{f:Str}{pos:Pos}(K:PySem.W.Frag)(h:X.K=K)(he:PE X e ta)(hb:attributeBase e f X.env (eval e X.env)=eval e X.env):PE X (.Attribute e f pos) (tFld K ta f):=h▸qt7 he hb
end L2
namespace Pr
open PySem L2 Qf
def acFl(rp cp kn:Addr):List (Str×V):=[("rows",.ref rp),("corners",.ref cp),("known",.ref kn)]
structure AcC(K:PySem.W.Frag)(C:Addr):Prop where
 cls:Cls K C
 rows:NoAttr K C "rows"
 corners:NoAttr K C "corners"
 known:NoAttr K C "known"
section
variable{P:Program}{w:World}{K:PySem.W.Frag}{mg:Str->Option Value}{base:Heap}
theorem scTA:FnScope ["four"] ["four"] (qa5 qi9):=qd4
inductive spTA_(vs:List V)(H:Hp)(Q:VK):Prop
 |mk(q:Addr)(a b c d:Nat)(e0:vs=[.ref q])(e1:H q=some (.tup (vN [a,b,c,d])))(e2:∀p,H p=none->Q (.ref p) (upd H p (.tup (vN [a,c,b,d]))))
def spTA:Sp:=λvs H Q _=>spTA_ vs H Q
theorem xx3{f:Addr}{fd:FuncData}(F:Fun K "turned_about" "turned_about" qi9 f fd):FnOk P w K mg base CX0 1 f fd ["four"] spTA:=by
 refine F.ok scTA (λvs H Q E h=>?_) (λcdv A outer s H vs Q E hr h=>?_)
 ·obtain⟨q,a,b,c,d,rfl,_⟩:=h
  rfl
 ·obtain⟨q,a,b,c,d,rfl,hq,k⟩:=h;refine qg2 ⟨_,⟨qb1 (@qc1 _ _ _ _ _ (Ars2.go (.cons ⟨pxN ix_tup (pv 0) qa3⟩ (.cons ⟨pxN ix_tup (pv 0) qa3⟩ (.cons ⟨pxN ix_tup (pv 0) qa3⟩ (.cons ⟨pxN ix_tup (pv 0) qa3⟩ .nil rfl) rfl) rfl) rfl)))⟩,?_⟩;exact⟨_,rfl,q,_,0,.int (a:Nat),rfl,rfl,SqT.of hq,rfl,_,rfl,q,_,2,.int (c:Nat),rfl,rfl,SqT.of hq,rfl,_,rfl,q,_,1,.int (b:Nat),rfl,rfl,SqT.of hq,rfl,_,rfl,q,_,3,.int (d:Nat),rfl,rfl,SqT.of hq,rfl,(by show 4<=sizeLine;decide),λp hp=>k p hp⟩
abbrev nMid:List Str:=["self", "four"]
theorem scMid:FnScope nMid nMid (qa5 qv1):=qd4
inductive spMid_(C:Addr)(vs:List V)(H:Hp)(Q:VK):Prop
 |mk(ac q dx rp cp kn:Addr)(rows:List Row)(n a b c d:Nat)(e0:vs=[.ref ac,.ref q])(e1:H ac=some (.ins C dx (acFl rp cp kn)))(e2:CorL H cp rows n)(e3:H q=some (.tup (vN [a,b,c,d])))(e4:∀x∈[a,b,c,d],x<n+2)
  (e5:∀H',Same H H'->Q (.int (midF ⟨T rows a,T rows b,T rows c,T rows d⟩)) H')
def xk4(C:Addr):Sp:=λvs H Q _=>spMid_ C vs H Q
theorem xe1{f C:Addr}{fd:FuncData}(F:Fun K "in_the_middle" "Account.in_the_middle" qv1 f fd)(AC:AcC K C)(B:Blt mg):FnOk P w K mg base CX0 1 f fd nMid (xk4 C):=by
 refine F.ok scMid (λvs H Q E h=>?_) (λcdv A outer s H vs Q E hr h=>?_)
 ·obtain⟨ac,q,dx,rp,cp,kn,rows,n,a,b,c,d,rfl,_⟩:=h
  rfl
 ·obtain⟨ac,q,dx,rp,cp,kn,rows,n,a,b,c,d,rfl,hac,hc,hq,j5,k⟩:=h;refine qg2 ⟨_,⟨qb1 (qc3 qh1 (by rfl) B.int Yg (qa0 (PEb.go ⟨qa8 (qu6 rfl) (by rfl) B.all Wn (qa0 (qs0 nMid (qa5 qv1) rfl rfl rfl scMid.nd (qz9 (by rfl) B.enum (qa0 (pv 1) qa2)) (λcl C fp s₀ H₀=>PEb.go ⟨pxN (ixT K rfl) (PEb.go ⟨pxN (ixL K rfl) (fldK K rfl (pv 2) rfl) (pv 1)⟩) (qa6 qc9 qa3 (pv 0))⟩)) qa2)⟩) qa2))⟩,?_⟩;obtain⟨cs,kU,jS,hce⟩:=id hc;refine⟨_,rfl,q,rfl,⟨_,SqT.of hq⟩,λD2 k6=>qk1 k6 (λ_=>true) (λj=>.bl (cor (T rows ([a,b,c,d].getD j 0)) (3-j))) (qu9 (K:=K) hq) (by rw[qg5];show 4<sizeLine;decide) ?_ ?_⟩
  ·rintro j x H5 hj ⟨t,y,rfl,hy,ht⟩ s5 os ho Q1 Q2 q1 q2;obtain⟨o1,o2,rfl⟩:=L2.os2 ho;obtain⟨m,hm,rfl⟩:=qv2 hy;have hj4:j<4:=(gS_ hm).1;have em:[a,b,c,d].getD j 0=m:=by rw[ZD,hm];rfl
   have hml:=j5 m (Zy hm);have kM:cs[m]?=some (cs[m]'(by lia)):=Zd (by lia);have hct:=s5 _ _ (hce m _ kM);generalize cs[m]'(by lia)=ca at kM hct;rw[em] at q2;refine⟨t,_,rfl,SqT.of ht,rfl,_,_,rfl,_,_,rfl,rfl,?_⟩;refine iteT (B:=Q1 H5) ?_;refine⟨_,rfl,ac,C,dx,_,.ref cp,rfl,s5 _ _ hac,AC.cls,AC.corners,rfl,_,rfl,cp,_,(m:Int),.ref ca,rfl,rfl,SqL.of (s5 _ _ kU),qg7 (by rw[Zg,kM];rfl),_,rfl,_,_,rfl,rfl,ca,_,3-(j:Int),.bl (cor (T rows m) (3-j)),rfl,rfl,SqT.of hct,?_,q2 rfl _ (Same.refl _)⟩
   match j,hj4 with
   |0,_|1,_|2,_|3,_=>rfl
  ·intro H5 s5 jX;have ev:(((List.range (vN [a,b,c,d]).length).filter λ_=>true).map λj=>V.bl (cor (T rows ([a,b,c,d].getD j 0)) (3-j)))=([cor (T rows a) 3,cor (T rows b) 2,cor (T rows c) 1,cor (T rows d) 0].map V.bl):=rfl;rw[ev] at jX;refine⟨D2,_,rfl,jX,.inr ⟨_,rfl,?_⟩⟩;have hk:=k H5 s5;have em:midF ⟨T rows a,T rows b,T rows c,T rows d⟩=if ([cor (T rows a) 3,cor (T rows b) 2,cor (T rows c) 1,cor (T rows d) 0].all id)=true then 1 else 0:=by
    unfold midF;simp only[List.all_cons,List.all_nil,id,Xa,Bool.and_assoc]
   rw[em] at hk;exact hk
end
structure AcAt(P:Program)(w:World)(H:Hp)(C ac dx rp cp kn:Addr)(rows:List Row)(kvs:List (List Key×V)):Prop where
 ob:H ac=some (.ins C dx (acFl rp cp kn))
 rw_:RowsAt H rp rows
 cr:CorL H cp rows rows.length
 nt:NestAt acK P w H kn kvs
 rt:∀(x y:Nat)(up:Bool) v,x<rows.length+2->y<rows.length+2->valV kvs [.inl (x:Nat),.inl (y:Nat),bKey up]=some v->v=.int (acr 14 up (T rows x) (T rows y))
 nd:(kvs.map (·.1)).Nodup
 ks:∀k∈kvs.map (·.1),∃(x y:Nat)(up:Bool),x<rows.length+2/\y<rows.length+2/\k=[.inl (x:Nat),.inl (y:Nat),bKey up]
inductive spAcr_(P:Program)(w:World)(C:Addr)(m:Nat)(vs:List V)(H:Hp)(Q:VK):Prop
 |mk(ac dx rp cp kn:Addr)(rows:List Row)(kvs:List (List Key×V))(x y:Nat)(up:Bool)(e0:vs=[.ref ac,.int (x:Nat),.int (y:Nat),.bl up])(e1:AcAt P w H C ac dx rp cp kn rows kvs)(e2:qb3 rows/\rows.length<=1000)(e3:x<rows.length+2/\y<rows.length+2)(e4:Tr.dep (T rows x)<=m/\Tr.dep (T rows y)<=m/\m<=14)
  (e5:∀H' kvs',But kn H H'->AcAt P w H' C ac dx rp cp kn rows kvs'->Q (.int (acr 14 up (T rows x) (T rows y))) H')
def xk5(P:Program)(w:World)(C:Addr)(m:Nat):Sp:=λvs H Q _=>spAcr_ P w C m vs H Q
inductive spOv_(P:Program)(w:World)(C:Addr)(m:Nat)(vs:List V)(H:Hp)(Q:VK):Prop
 |mk(ac dx rp cp kn q:Addr)(rows:List Row)(kvs:List (List Key×V))(a b c d:Nat)(up:Bool)(e0:vs=[.ref ac,.ref q,.bl up])(e1:AcAt P w H C ac dx rp cp kn rows kvs)(e2:qb3 rows/\rows.length<=1000)(e3:H q=some (.tup (vN [a,b,c,d])))(e4:∀x∈[a,b,c,d],x<rows.length+2/\Tr.dep (T rows x)<=m)(e5:m<=14)
  (e6:∀H' kvs',But kn H H'->AcAt P w H' C ac dx rp cp kn rows kvs'->Q (.int (ovb 14 up ⟨T rows a,T rows b,T rows c,T rows d⟩)) H')
def spOv(P:Program)(w:World)(C:Addr)(m:Nat):Sp:=λvs H Q _=>spOv_ P w C m vs H Q
section
variable{P:Program}{w:World}{K:PySem.W.Frag}{mg:Str->Option Value}{base:Heap}
theorem AcAt.same{H H':Hp}{C ac dx rp cp kn:Addr}{rows:List Row}{kvs:List (List Key×V)}(h:AcAt P w H C ac dx rp cp kn rows kvs)(s:Same H H'):AcAt P w H' C ac dx rp cp kn rows kvs:=
 ⟨s _ _ h.ob,h.rw_.mono s.tups,h.cr.same s,h.nt.mono (λb xs e=>s _ _ e) (λo e=>s _ _ e),h.rt,h.nd,h.ks⟩
abbrev nOv:List Str:=["self", "four", "is_upright", "first", "second", "third", "fourth"]
abbrev nOv3:List Str:=["self", "four", "is_upright"]
abbrev nAc4:List Str:=["self", "one", "other", "is_upright"]
theorem scOv:FnScope nOv nOv3 (qa5 qA5):=qd4
theorem xr7{f fT fA C:Addr}{fd fdT fdA:FuncData}{m k:Nat}(F:Fun K "over_both" "Account.over_both" qA5 f fd)(AC:AcC K C)(hT:mg "turned_about" = some (.ref fT))(FT:Fun K "turned_about" "turned_about" qi9 fT fdT)(bT:Binds K fdT ["four"] [])
  (MA:Meth K C "across" fA) (bA:Binds K fdA nAc4 []) (GA:FnOk P w K mg base CX0 (k+1) fA fdA nAc4 (xk5 P w C m)):FnOk P w K mg base CX0 (k+2) f fd nOv3 (spOv P w C m):=by
 have GT:FnOk P w K mg base CX0 1 fT fdT ["four"] spTA:=xx3 FT;refine F.ok scOv (λvs H Q E h=>?_) (λcdv A outer s H vs Q E hr h=>?_)
 ·obtain⟨ac,dx,rp,cp,kn,q,rows,kvs,a,b,c,d,up,rfl,_⟩:=h
  rfl
 ·obtain⟨ac,dx,rp,cp,kn,q,rows,kvs,a,b,c,d,up,rfl,hA,hok,hq,hx,hm,q0⟩:=h;have j8:Room 1 _:=hr.mono (by lia);refine seqE ⟨_,⟨qr1 (q63 (qg9 (pv 2)) (PEb.go ⟨pcN GT j8 hT FT.kp bT (qa0 (pv 1) qa2)⟩) (pv 1)) (qm0 rfl (qb9 (pgN 3 scOv.nd) (qb9 (pgN 4 scOv.nd) (qb9 (pgN 5 scOv.nd) (qb9 (pgN 6 scOv.nd) qh3)))))⟩,?_⟩;refine qg2 ⟨_,⟨qb1 (qa6 qb5 (PEb.go ⟨qg6 (pv 0) AC.cls MA GA hr bA .nil qm3 (qa0 (pv 3) (qa0 (pv 4) (qa0 (pv 2) qa2)))⟩) (PEb.go ⟨qg6 (pv 0) AC.cls MA GA hr bA .nil qm3 (qa0 (pv 5) (qa0 (pv 6) (qa0 (pv 2) qa2)))⟩))⟩,?_⟩;refine⟨_,rfl,up,rfl,?_⟩;cases up with
  |true=>
   refine iteT ?_;refine⟨_,rfl,q,a,b,c,d,rfl,hq,λp hp=>⟨p,_,rfl,SqT.of qa1,rfl,_,_,rfl,_,_,rfl,_,_,rfl,_,_,rfl,rfl,?_⟩⟩;have s1:Same H (upd H p (.tup (vN [a,c,b,d]))):=qb0 hp;have kQ:=hA.same s1;refine qN8 (σ':=[some (.ref ac),some (.ref q),some (.bl true),some (.int (a:Nat)),some (.int (c:Nat)),some (.int (b:Nat)),some (.int (d:Nat))]) rfl ?_;refine⟨_,rfl,ac,dx,_,rfl,kQ.ob,rfl,_,rfl,_,rfl,_,rfl,ac,dx,rp,cp,kn,rows,kvs,a,c,true,rfl,kQ,hok,⟨(hx a (by simp)).1,(hx c (by simp)).1⟩,⟨(hx a (by simp)).2,(hx c (by simp)).2,hm⟩,λH2 kvs2 b2 jJ=>?_⟩;refine⟨_,rfl,ac,dx,_,rfl,jJ.ob,rfl,_,rfl,_,rfl,_,rfl,ac,dx,rp,cp,kn,rows,kvs2,b,d,true,rfl,jJ,hok,⟨(hx b (by simp)).1,(hx d (by simp)).1⟩,⟨(hx b (by simp)).2,(hx d (by simp)).2,hm⟩,λH3 kvs3 b3 kH=>?_⟩;exact⟨_,_,rfl,rfl,q0 H3 kvs3 ((But.of s1).trans (b2.trans b3)) kH⟩
  |false=>
   refine iteF ?_;refine⟨_,rfl,q,_,rfl,SqT.of hq,rfl,_,_,rfl,_,_,rfl,_,_,rfl,_,_,rfl,rfl,?_⟩;refine qN8 (σ':=[some (.ref ac),some (.ref q),some (.bl false),some (.int (a:Nat)),some (.int (b:Nat)),some (.int (c:Nat)),some (.int (d:Nat))]) rfl ?_;refine⟨_,rfl,ac,dx,_,rfl,hA.ob,rfl,_,rfl,_,rfl,_,rfl,ac,dx,rp,cp,kn,rows,kvs,a,b,false,rfl,hA,hok,⟨(hx a (by simp)).1,(hx b (by simp)).1⟩,⟨(hx a (by simp)).2,(hx b (by simp)).2,hm⟩,λH2 kvs2 b2 jJ=>?_⟩;refine⟨_,rfl,ac,dx,_,rfl,jJ.ob,rfl,_,rfl,_,rfl,_,rfl,ac,dx,rp,cp,kn,rows,kvs2,c,d,false,rfl,jJ,hok,⟨(hx c (by simp)).1,(hx d (by simp)).1⟩,⟨(hx c (by simp)).2,(hx d (by simp)).2,hm⟩,λH3 kvs3 b3 kH=>?_⟩;exact⟨_,_,rfl,rfl,q0 H3 kvs3 (id (b2.trans b3)) kH⟩
end
end Pr
namespace Qf
open Tr
def qrow(rows:List Row)(x:Nat):Row:=if x<2 then [x,x,x,x] else rows.getD (x-2) []
theorem xa1{rows:List Row}(ok:qb3 rows){x:Nat}(hx:x<rows.length+2):(qrow rows x).length=4:=by
 unfold qrow;split
 ·rfl
 ·rename_i h;exact (ok (x-2) _ (qu8 (by lia))).1
theorem xk6{rows:List Row}(ok:qb3 rows){x i y:Nat}(hx:x<rows.length+2)(h:(qrow rows x)[i]?=some y):y<rows.length+2/\T rows y=qr i (T rows x)/\dp rows y<=dp rows x-1:=by
 unfold qrow at h;split at h
 ·rename_i h2;have hy:y=x:=by
   match i,h with
   |0,h|1,h|2,h|3,h=>simpa using h.symm
   |i+4,h=>simp at h
  subst hy;refine⟨hx,?_,by rw[qZ4 h2];lia⟩
  match y,h2 with
  |0,_=>rw[qf1];rfl
  |1,_=>rw[qh7];rfl
 ·rename_i h2;have e:=qu8 (rows:=rows) (p:=x-2) (by lia);have hi4:i<4:=by
   have:=(ok _ _ e).1;have:=(gS_ h).1;lia
  have kK:=(ok _ _ e).2 y (Zy h);refine⟨by lia,?_,?_⟩
  ·have:=T_qr ok e hi4 h;rw[show x-2+2=x by lia] at this;exact this
  ·have hd:=qF1 ok e;rw[show x-2+2=x by lia] at hd;have:=qJ3 (ZF.mpr ⟨y,Zy h,rfl⟩:dp rows y∈(rows.getD (x-2) []).map (dp rows));lia
end Qf
namespace Pr
open PySem L2 Qf
section
variable{P:Program}{w:World}{K:PySem.W.Frag}{mg:Str->Option Value}{base:Heap}
theorem xx4:FnScope ["rows", "number"] ["rows", "number"] (qa5 qF4):=qd4
def xr8:Sp:=λvs H Q _=>∃(rp:Addr)(x:Nat)(rows:List Row),vs=[.ref rp,.int (x:Nat)]/\RowsS H rp rows/\x<rows.length+2/\∀H' b,Same H H'->H' b=some (.tup (vN (qrow rows x)))->Q (.ref b) H'
theorem xr9{f:Addr}{fd:FuncData}(F:Fun K "quarters_of" "quarters_of" qF4 f fd)(Tc:Cst mg):FnOk P w K mg base CX0 1 f fd ["rows", "number"] xr8:=by
 obtain⟨tf,hf⟩:=Tc.first;refine F.ok xx4 (λvs H Q E h=>?_) (λcdv A outer s H vs Q E hr h=>?_)
 ·obtain⟨rp,x,rows,rfl,_⟩:=h
  rfl
 ·obtain⟨rp,x,rows,rfl,⟨bs,hb,hl,j6⟩,hx,q⟩:=h;refine seqE ⟨_,⟨qe5 (qb8 qp0 (pv 1) (qc5 (v:=.int 2) (by rfl) hf ⟨_,rfl⟩) (qb6 _)) (qa9 (qb1 (qa6 qA2 (qc1 (qa0 (pv 1) qa2)) qa3))) qb7⟩,?_⟩;refine qg2 ⟨_,⟨qb1 (pxN xo4 (pv 0) (qa6 qc9 (pv 1) (qc5 (v:=.int 2) (by rfl) hf ⟨_,rfl⟩)))⟩,?_⟩;refine⟨_,rfl,_,_,rfl,rfl,_,rfl,?_⟩;refine ite2 (λhc=>?_) (λhc=>?_)
  ·have x2:x<2:=by have:=ZG hc;lia
   refine⟨_,rfl,(by show 1<=sizeLine;decide),λb hb'=>⟨b,4,_,rfl,rfl,qa1,by decide,by decide,λp hp=>q _ p ((qb0 hb').trans (qb0 hp)) ?_⟩⟩;rw[qa1];unfold qrow;rw[Zm x2]
   rfl
  ·have x2:¬x<2:=λz=>hc (Zq (by lia));have hi:x-2<bs.length:=by lia
   have hbi:bs[x-2]?=some bs[x-2]:=Zd hi;have kZ:=j6 _ _ _ hbi (qu8 (by lia));have ex:(x:Int)-2=((x-2:Nat):Int):=by lia
   refine⟨_,rfl,_,rfl,_,_,rfl,rfl,?_⟩;show rIx _ (V.ref rp) (V.int ((x:Int)-2)) H _;rw[ex];have hv:(bs.map V.ref)[x-2]?=some (.ref bs[x-2]):=by rw[Zg,hbi];rfl
   have fin:Q (.ref bs[x-2]) H:=q H _ (Same.refl _) (by unfold qrow;rw[Zh x2];exact kZ);rcases hb with hb|hb
   ·exact .inr (.inl ⟨rp,_,_,_,rfl,rfl,SqT.of hb,qg7 hv,fin⟩)
   ·exact .inl ⟨rp,_,_,_,rfl,rfl,SqL.of hb,qg7 hv,fin⟩
end
end Pr
namespace L2
open PySem
section
variable{X:Cx}
def xx5(t:TS):TS:=λD σ H=>∃J:St->Hp->Prop,t { D with nx:=J } σ H/\∀σ' H',J σ' H'->D.nx σ' H'
theorem qB3{st:Stmt}{t:TS}(h:PS X st t):PS X st (xx5 t):=by
 intro j1 s σ H D I hj;obtain⟨J,h1,h2⟩:=hj;refine Yu (h j1 s σ H _ I h1) (λf s' hs=>?_) λ_ _ e=>e;cases f with
 |next=>
  obtain⟨σ',H',I',j⟩:=hs;exact⟨σ',H',I',h2 _ _ j⟩
 |brk=>exact hs
 |cont=>exact hs
 |ret u=>exact hs
end
end L2
namespace Pr
open PySem L2 Qf
theorem qG8{κ:Type}[DecidableEq κ]{kv:List (κ×V)}{k:κ}{v:V}(h:valV kv k=none):putK kv k v=kv++[(k,v)]:=by
 unfold putK;rw[qe2,h]
 rfl
theorem qS1{κ:Type}[DecidableEq κ]{kv:List (κ×V)}{k:κ}(h:valV kv k=none):k∉kv.map (·.1):=λhm=>by
 have:=qe2 k kv;rw[h] at this;obtain⟨q,hq,rfl⟩:=ZF.mp hm;have h2:(kv.any λkv=>decide (kv.1=q.1))=true:=Z2.mpr ⟨q,hq,Zq rfl⟩;rw[this] at h2;cases h2
theorem qy5{κ:Type}[DecidableEq κ]{kv:List (κ×V)}{k:κ}{v w:V}(h:valV kv k=some w):(putK kv k v).map (·.1)=kv.map (·.1):=by
 unfold putK;rw[qe2,h,Zm (show (some w).isSome=true from rfl),Y4];refine Ye λq _=>?_;show (if q.1=k then (q.1,v) else q).1=q.1;split<;>rfl
section
variable{P:Program}{w:World}{K:PySem.W.Frag}{mg:Str->Option Value}{base:Heap}
abbrev nAc:List Str:=["self", "one", "other", "is_upright", "key", "mine", "theirs", "four"]
theorem scAc:FnScope nAc nAc4 (qa5 qM5):=qd4
theorem xs0{rows:List Row}{m x:Nat}(ok:qb3 rows)(hx:x<rows.length+2)(hd:Tr.dep (T rows x)<=m+1):∃m0 m1 m2 m3,qrow rows x=[m0,m1,m2,m3]/\(∀z∈[m0,m1,m2,m3],z<rows.length+2/\Tr.dep (T rows z)<=m)/\T rows m0=qr 0 (T rows x)/\T rows m1=qr 1 (T rows x)/\T rows m2=qr 2 (T rows x)/\T rows m3=qr 3 (T rows x):=by
 have hl:=xa1 ok hx;have hi:=λi y=>xk6 ok (i:=i) (y:=y) hx;generalize qrow rows x=r at hl hi
 match r,hl with
 |[a,b,c,d],_=>
  have h0:=hi 0 a rfl;have h1:=hi 1 b rfl;have h2:=hi 2 c rfl;have h3:=hi 3 d rfl;refine⟨a,b,c,d,rfl,λz hz=>?_,h0.2.1,h1.2.1,h2.2.1,h3.2.1⟩;simp only[Zv,ZR,XA] at hz;rcases hz with rfl|rfl|rfl|rfl
  ·exact⟨h0.1,by rw[h0.2.1];exact qw4 (by decide) hd⟩
  ·exact⟨h1.1,by rw[h1.2.1];exact qw4 (by decide) hd⟩
  ·exact⟨h2.1,by rw[h2.2.1];exact qw4 (by decide) hd⟩
  ·exact⟨h3.1,by rw[h3.2.1];exact qw4 (by decide) hd⟩
section
variable{H H':Hp}{C ac dx rp cp kn:Addr}{rows:List Row}{kvs:List (List Key×V)}
theorem AcAt.ne_tup(h:AcAt P w H C ac dx rp cp kn rows kvs){q:Addr}{vs:List V}(e:H q=some (.tup vs)):q≠kn:=λz=>by
 obtain⟨xs,e2,_⟩:=h.nt;rw[z,e2] at e;cases e
theorem AcAt.few(h:AcAt P w H C ac dx rp cp kn rows kvs)(hl:rows.length<=1000):kvs.length<sizeLine:=by
 have h1:=h.nd.length_le_of_subset (l₂:=(List.range (rows.length+2)).flatMap λx=>(List.range (rows.length+2)).flatMap λy=>[[.inl (x:Nat),.inl (y:Nat),bKey true],[.inl (x:Nat),.inl (y:Nat),bKey false]]) λk hk=>by
  obtain⟨x,y,up,hx,hy,rfl⟩:=h.ks k hk;refine List.mem_flatMap.mpr ⟨x,ZW.mpr hx,List.mem_flatMap.mpr ⟨y,ZW.mpr hy,?_⟩⟩;cases up<;>simp
 rw[Ze] at h1;have h2:∀(n:Nat)(f:Nat->List (List Key))(c:Nat),(∀i,(f i).length=c)->((List.range n).flatMap f).length=n*c:=λn f c hf=>by
  rw[List.length_flatMap,Ye (g:=λ_=>c) λi _=>hf i,List.map_const',List.sum_replicate_nat,Y3]
 rw[h2 _ _ ((rows.length+2)*2) λi=>h2 _ _ 2 λ_=>rfl] at h1;have h3:(rows.length+2)*((rows.length+2)*2)<=1002*(1002*2):=Wj (by lia) (by lia);exact ZS (ZH h1 h3) (by decide)
theorem AcAt.put(h:AcAt P w H C ac dx rp cp kn rows kvs){x y:Nat}{up:Bool}(b:But kn H H')(hx:x<rows.length+2)(hy:y<rows.length+2)(hn:NestAt acK P w H' kn (putK kvs [.inl (x:Nat),.inl (y:Nat),bKey up] (.int (acr 14 up (T rows x) (T rows y))))):AcAt P w H' C ac dx rp cp kn rows (putK kvs [.inl (x:Nat),.inl (y:Nat),bKey up] (.int (acr 14 up (T rows x) (T rows y)))):=by
 have jB:∀{q:Addr}{o:HO},H q=some o->(∀g,o≠.ext g)->H' q=some o:=λ{q o} e g=>b _ _ e λz=>by
  obtain⟨xs,e2,_⟩:=h.nt;rw[z,e2] at e;exact g _ (ZC e).symm
 refine⟨jB h.ob (λg z=>by cases z),h.rw_.mono (λq v e=>jB e (λg z=>by cases z)),?_,hn,λx' y' up' v hx' hy' e=>?_,?_,?_⟩
 ·obtain⟨bs,h1,h2,h3⟩:=h.cr;exact⟨bs,jB h1 (λg z=>by cases z),h2,λi c e=>jB (h3 i c e) (λg z=>by cases z)⟩
 ·rw[qL4] at e;split at e
  ·rename_i ek;obtain⟨e1,e2⟩:=Xb ek;obtain⟨e2,e3⟩:=Xb e2;obtain⟨e3,_⟩:=Xb e3;have f1:=Xi e1;have f2:=Xi e2;have f3:=qN9 e3;rw[<- ZC e,f3,show x'=x by lia,show y'=y by lia]
  ·exact h.rt x' y' up' v hx' hy' e
 ·rcases hv:valV kvs [.inl (x:Nat),.inl (y:Nat),bKey up] with _|v
  ·rw[qG8 hv,ZE];exact Xy.mpr ⟨h.nd,by simp,λa ha c hc e=>qS1 hv (by rw[Zz,Xj,X9] at hc;have e2:=e.trans hc;rw[e2] at ha;exact ha)⟩
  ·rw[qy5 hv];exact h.nd
 ·rcases hv:valV kvs [.inl (x:Nat),.inl (y:Nat),bKey up] with _|v
  ·rw[qG8 hv,ZE];intro k hk;rcases Yi.mp hk with z|z
   ·exact h.ks k z
   ·rw[Zz,Xj,X9] at z;exact⟨x,y,up,hx,hy,z⟩
  ·rw[qy5 hv];exact h.ks
end
theorem xe2{f fQ fO fM C:Addr}{fd fdQ fdO fdM:FuncData}{m k:Nat}{S:Sp}(F:Fun K "across" "Account.across" qM5 f fd)(AC:AcC K C)(B:Blt mg)(Tc:Cst mg)(hem:∃t,mg "EMPTY" = some (.int 0 t))(hQ:mg "quarters_of" = some (.ref fQ))(FQ:Fun K "quarters_of" "quarters_of" qF4 fQ fdQ)(bQ:Binds K fdQ ["rows", "number"] [])
  (MO:Meth K C "over_both" fO) (bO:Binds K fdO nOv3 []) (GO:FnOk P w K mg base CX0 (k+2) fO fdO nOv3 S) (hS:m=0\/∃m0,m=m0+1/\S=spOv P w C m0)
  (MM:Meth K C "in_the_middle" fM) (FM:Fun K "in_the_middle" "Account.in_the_middle" qv1 fM fdM) (bM:Binds K fdM nMid []):FnOk P w K mg base CX0 (k+3) f fd nAc4 (xk5 P w C m):=by
 have GQ:FnOk P w K mg base CX0 1 fQ fdQ ["rows", "number"] xr8:=xr9 FQ Tc;have GM:FnOk P w K mg base CX0 1 fM fdM nMid (xk4 C):=xe1 FM AC B;obtain⟨te,hte⟩:=hem;obtain⟨tf,htf⟩:=Tc.full;refine F.ok scAc (λvs H Q E h=>?_) (λcdv A outer s H vs Q E hr h=>?_)
 ·obtain⟨ac,dx,rp,cp,kn,rows,kvs,x,y,up,rfl,_⟩:=h
  rfl
 ·obtain⟨ac,dx,rp,cp,kn,rows,kvs,x,y,up,rfl,hA,hok,jL,jT,q0⟩:=h;have un:=hr.units;have hu:_+10<cLine:=ZS (Xe (show 10<=64 by decide) _) un;have j8:Room 1 _:=hr.mono (by lia);refine seqE ⟨_,⟨qe5 (qb8 (xd8 hr) (qc5 (v:=.int 0) (by rfl) hte ⟨_,rfl⟩) (PEb.go ⟨qc1 (qa0 (pv 1) (qa0 (pv 2) qa2))⟩) (by first|exact qb6 _|rfl|decide|with_unfolding_all rfl)) (qa9 (qb1 qa3)) qb7⟩,?_⟩;refine seqE ⟨_,⟨qB3 (qe5 (q66 qP7 qP7 (pv 1) (pv 2) (qc5 (v:=.int 1) (by rfl) htf ⟨_,rfl⟩)) (qa9 (qb1 (xf6 qU3 qa3))) qb7)⟩,?_⟩;refine seqE ⟨_,⟨psN 4 scAc.nd (@qc1 _ _ _ _ _ (Ars2.go (.cons ⟨pv 1⟩ (.cons ⟨pv 2⟩ (.cons ⟨pv 3⟩ .nil rfl) rfl) rfl)))⟩,?_⟩;refine seqE ⟨_,⟨qB3 (qe5 (qb8 (q30 (nk:=acK) hu) (pv 4) (qt7 (pv 0) rfl) (by first|rfl|decide|with_unfolding_all rfl))
   (StB.go (.cons ⟨psN 5 scAc.nd (PEb.go ⟨pcN GQ j8 hQ FQ.kp bQ (Ars2.go (.cons ⟨qt7 (pv 0) rfl⟩ (.cons ⟨pv 1⟩ .nil rfl) rfl))⟩)⟩
   (.cons ⟨psN 6 scAc.nd (PEb.go ⟨pcN GQ j8 hQ FQ.kp bQ (Ars2.go (.cons ⟨qt7 (pv 0) rfl⟩ (.cons ⟨pv 2⟩ .nil rfl) rfl))⟩)⟩
   (.cons ⟨qB3 (qe5 (qg9 (pv 3)) (StB.go (.one ⟨psN 7 scAc.nd (@qc1 _ _ _ _ _ (Ars2.go (.cons ⟨pxN ix_tup (pv 5) qa3⟩ (.cons ⟨pxN ix_tup (pv 5) qa3⟩ (.cons ⟨pxN ix_tup (pv 6) qa3⟩ (.cons ⟨pxN ix_tup (pv 6) qa3⟩ .nil rfl) rfl) rfl) rfl)))⟩)) (StB.go (.one ⟨psN 7 scAc.nd (@qc1 _ _ _ _ _ (Ars2.go (.cons ⟨pxN ix_tup (pv 5) qa3⟩ (.cons ⟨pxN ix_tup (pv 6) qa3⟩ (.cons ⟨pxN ix_tup (pv 5) qa3⟩ (.cons ⟨pxN ix_tup (pv 6) qa3⟩ .nil rfl) rfl) rfl) rfl)))⟩)))⟩
   (.one ⟨qr1 (qa6 qb5 (PEb.go ⟨qg6 (pv 0) AC.cls MO GO hr bO .nil qm3 (qa0 (pv 7) (qa0 (pv 3) qa2))⟩) (PEb.go ⟨qg6 (pv 0) AC.cls MM GM j8 bM .nil qm3 (qa0 (pv 7) qa2)⟩)) (qT9 (qt7 (pv 0) rfl) (pv 4) (q98 (nk:=acK) hu))⟩))))) qb7)⟩,?_⟩
  refine qg2 ⟨_,⟨qb1 (pxN (xk3 (nk:=acK) hu) (qt7 (pv 0) rfl) (pv 4))⟩,?_⟩;obtain⟨tx0,tx1⟩:=q20 hok.1 jL.1;obtain⟨ty0,ty1⟩:=q20 hok.1 jL.2;refine⟨_,rfl,_,rfl,(by show 2<=sizeLine;decide),λk1 vA=>⟨k1,_,[.int (x:Nat),.int (y:Nat)],.int 0,rfl,qa1,.cons (.int _) (.cons (.int _) .nil),.int _,rfl,rfl,by decide,_,rfl,?_⟩⟩;have s1:Same H (upd H k1 (.tup [.int (x:Nat),.int (y:Nat)])):=qb0 vA;have ea:([PyData.int (x:Nat),.int (y:Nat)].any λe=>PyData.eqv e (.int 0))=decide (x=0\/y=0):=by
   have e1:∀z:Nat,PyData.eqv (.int (z:Nat)) (.int 0)=decide (z=0):=λz=>by
    show decide (((z:Nat):Int)=0)=_;rw[decide_eq_decide];lia
   rw[Yn,Yn,List.any_nil,e1,e1,Bool.or_false,Bool.decide_or]
  rw[ea];have kQ:=hA.same s1;generalize upd H k1 (.tup [.int (x:Nat),.int (y:Nat)])=H1 at s1 kQ ⊢;by_cases h0:x=0\/y=0
  ·rw[Zq h0];refine iteT ?_;have hq:=q0 H1 kvs (But.of s1) kQ;rw[show acr 14 up (T rows x) (T rows y)=0 by
    show (if _ then (0:Int) else _)=0;rw[Zm (h0.imp (λz=>tx0.mpr z) λz=>ty0.mpr z)]] at hq
   exact hq
  rw[Zp h0];refine iteF ?_;have hz:¬(T rows x=.z\/T rows y=.z):=λz=>h0 (z.imp (λz=>tx0.mp z) λz=>ty0.mp z);refine⟨λσ H2=>H2=H1/\¬(x=1/\y=1)/\σ=[some (.ref ac),some (.int (x:Nat)),some (.int (y:Nat)),some (.bl up),none,none,none,none],?_,?_⟩
  ·refine⟨_,rfl,_,rfl,rfl,_,rfl,?_⟩;by_cases hxe:x=y
   ·rw[Zq (show V.int (x:Nat)=V.int (y:Nat) by rw[hxe])];refine iteT ⟨rfl,_,rfl,?_⟩;by_cases h1:y=1
    ·rw[Zq (show V.int (y:Nat)=V.int 1 by rw[h1];rfl)];refine iteT ⟨_,rfl,?_⟩;have hq:=q0 H1 kvs (But.of s1) kQ;rw[show acr 14 up (T rows x) (T rows y)=-1 by
      show (if _ then (0:Int) else if _ then (-1:Int) else _)=-1;rw[Zh hz,Zm ⟨tx1.mpr (hxe.trans h1),ty1.mpr h1⟩]] at hq
     exact hq
    ·rw[Zp (show ¬V.int (y:Nat)=V.int 1 from λz=>h1 (by have:=V.int.inj z;lia))];exact iteF ⟨rfl,λz=>h1 z.2,rfl⟩
   ·rw[Zp (show ¬V.int (x:Nat)=V.int (y:Nat) from λz=>hxe (by have:=V.int.inj z;lia))];exact iteF ⟨_,rfl,iteF ⟨rfl,λz=>hxe (z.1.trans z.2.symm),rfl⟩⟩
  ·rintro σ H2 ⟨rfl,h11,rfl⟩;have ho:¬(T rows x=.o/\T rows y=.o):=λz=>h11 ⟨tx1.mp z.1,ty1.mp z.2⟩;refine⟨_,rfl,_,rfl,_,rfl,(by show 3<=sizeLine;decide),λkk hkk=>?_⟩;have vI:upd H2 kk (.tup [.int (x:Nat),.int (y:Nat),.bl up]) kk=some (.tup [.int (x:Nat),.int (y:Nat),.bl up]):=qa1;have s2:=s1.trans (qb0 (o:=.tup [.int (x:Nat),.int (y:Nat),.bl up]) hkk);have jJ:=kQ.same (qb0 (o:=.tup [.int (x:Nat),.int (y:Nat),.bl up]) hkk);generalize upd H2 kk (.tup [.int (x:Nat),.int (y:Nat),.bl up])=H3 at vI s2 jJ ⊢;have htl:∀{H:Hp},H kk=some (.tup [.int (x:Nat),.int (y:Nat),.bl up])->acK.tl H [.inl (x:Nat),.inl (y:Nat),bKey up] kk:=λh=>⟨x,y,up,rfl,h⟩;refine⟨λσ H4=>∃kvs4 v5 v6 v7,σ=[some (.ref ac),some (.int (x:Nat)),some (.int (y:Nat)),some (.bl up),some (.ref kk),v5,v6,v7]/\But kn H3 H4/\AcAt P w H4 C ac dx rp cp kn rows kvs4/\valV kvs4 [.inl (x:Nat),.inl (y:Nat),bKey up]=some (.int (acr 14 up (T rows x) (T rows y))),?_,?_⟩
   ·refine⟨_,rfl,_,rfl,ac,C,dx,_,.ref kn,rfl,jJ.ob,AC.cls,AC.known,rfl,kn,kk,_,kvs,rfl,rfl,jJ.nt,htl vI,_,rfl,?_⟩;cases hv:valV kvs [.inl (x:Nat),.inl (y:Nat),bKey up] with
    |some v=>
     refine iteF ?_;have:=jJ.rt x y up v jL.1 jL.2 hv;exact⟨kvs,none,none,none,rfl,But.refl _ _,jJ,by rw[hv,this]⟩
    |none=>
     refine iteT ?_;rcases hS with rfl|⟨m,rfl,rfl⟩
     ·rcases qG7 jT.1 with e|e
      ·exact absurd (.inl e) hz
      ·rcases qG7 jT.2.1 with e'|e'
       ·exact absurd (.inr e') hz
       ·exact absurd ⟨e,e'⟩ ho
     refine⟨_,rfl,ac,C,dx,_,.ref rp,rfl,jJ.ob,AC.cls,AC.rows,rfl,_,rfl,rp,x,rows,rfl,jJ.rw_.s,jL.1,λH4 b5 s4 h5=>?_⟩;have kX:=jJ.same s4;refine⟨_,rfl,ac,C,dx,_,.ref rp,rfl,kX.ob,AC.cls,AC.rows,rfl,_,rfl,rp,y,rows,rfl,kX.rw_.s,jL.2,λH5 b6 s5 h6=>?_⟩;have vR:=kX.same s5
     replace h5:=s5 _ _ h5
     obtain⟨m0,m1,m2,m3,em,hm⟩:=xs0 hok.1 jL.1 jT.1;obtain⟨t0,t1,t2,t3,et,ht⟩:=xs0 hok.1 jL.2 jT.2.1;rw[em] at h5;rw[et] at h6;refine⟨λσ H6=>∃(q:Addr)(a b c d:Nat),σ=[some (.ref ac),some (.int (x:Nat)),some (.int (y:Nat)),some (.bl up),some (.ref kk),some (.ref b5),some (.ref b6),some (.ref q)]/\Same H5 H6/\H6 q=some (.tup (vN [a,b,c,d]))/\(∀z∈[a,b,c,d],z<rows.length+2/\Tr.dep (T rows z)<=m)/\(⟨T rows a,T rows b,T rows c,T rows d⟩:Four)=qg3 up (T rows x) (T rows y),?_,?_⟩
     ·refine⟨_,rfl,up,rfl,?_⟩;cases up with
      |true=>
       refine iteT ?_;refine⟨_,rfl,b5,_,2,.int (m2:Nat),rfl,rfl,SqT.of h5,rfl,_,rfl,b5,_,3,.int (m3:Nat),rfl,rfl,SqT.of h5,rfl,_,rfl,b6,_,0,.int (t0:Nat),rfl,rfl,SqT.of h6,rfl,_,rfl,b6,_,1,.int (t1:Nat),rfl,rfl,SqT.of h6,rfl,(by show 4<=sizeLine;decide),λq hq=>?_⟩;refine⟨q,m2,m3,t0,t1,rfl,qb0 hq,qa1,?_,?_⟩
       ·intro z hz;simp only[Zv,ZR,XA] at hz;rcases hz with rfl|rfl|rfl|rfl
        ·exact hm.1 _ (by simp)
        ·exact hm.1 _ (by simp)
        ·exact ht.1 _ (by simp)
        ·exact ht.1 _ (by simp)
       ·rw[hm.2.2.2.1,hm.2.2.2.2,ht.2.1,ht.2.2.1];rfl
      |false=>
       refine iteF ?_;refine⟨_,rfl,b5,_,1,.int (m1:Nat),rfl,rfl,SqT.of h5,rfl,_,rfl,b6,_,0,.int (t0:Nat),rfl,rfl,SqT.of h6,rfl,_,rfl,b5,_,3,.int (m3:Nat),rfl,rfl,SqT.of h5,rfl,_,rfl,b6,_,2,.int (t2:Nat),rfl,rfl,SqT.of h6,rfl,(by show 4<=sizeLine;decide),λq hq=>?_⟩;refine⟨q,m1,t0,m3,t2,rfl,qb0 hq,qa1,?_,?_⟩
       ·intro z hz;simp only[Zv,ZR,XA] at hz;rcases hz with rfl|rfl|rfl|rfl
        ·exact hm.1 _ (by simp)
        ·exact ht.1 _ (by simp)
        ·exact hm.1 _ (by simp)
        ·exact ht.1 _ (by simp)
       ·rw[hm.2.2.1,hm.2.2.2.2,ht.2.1,ht.2.2.2.1];rfl
     ·rintro σ H6 ⟨q,a,b,c,d,rfl,s6,hq,hz4,ef⟩;have hA6:=vR.same s6;refine⟨_,rfl,ac,dx,_,rfl,hA6.ob,rfl,_,rfl,_,rfl,ac,dx,rp,cp,kn,q,rows,kvs,a,b,c,d,up,rfl,hA6,hok,hq,hz4,by lia,λH7 kvs7 b7 hA7=>?_⟩;have hq7:=b7 _ _ hq (hA6.ne_tup hq);refine⟨_,rfl,ac,dx,_,rfl,hA7.ob,rfl,_,rfl,ac,q,dx,rp,cp,kn,rows,rows.length,a,b,c,d,rfl,hA7.ob,hA7.cr,hq7,λz hz=>(hz4 z hz).1,λH8 s8=>?_⟩;have hA8:=hA7.same s8;have ev:ovb 14 up ⟨T rows a,T rows b,T rows c,T rows d⟩+midF ⟨T rows a,T rows b,T rows c,T rows d⟩=acr 14 up (T rows x) (T rows y):=by
       rw[ef,<- qs6 hz ho];rw[qq1 (k:=m+1) (m:=15) up _ _ jT.1 jT.2.1 (by lia),<- qq1 (k:=m+1) (m:=14) up _ _ jT.1 jT.2.1 (by lia)]
      have s34:Same H3 H6:=s4.trans (s5.trans s6);have bb:But kn H3 H8:=(But.of s34).trans (b7.trans (But.of s8));have nk:kk≠kn:=jJ.ne_tup vI;refine⟨_,_,rfl,rfl,?_⟩;rw[ev];refine⟨_,rfl,ac,C,dx,_,.ref kn,rfl,hA8.ob,AC.cls,AC.known,rfl,_,rfl,kn,kk,_,kvs7,rfl,rfl,hA8.nt,htl (bb _ _ vI nk),hA8.few hok.2,λH9 b9 hN9=>?_⟩;exact⟨_,_,_,_,rfl,bb.trans b9,hA8.put b9 jL.1 jL.2 hN9,by rw[qL4,Zm rfl]⟩
   ·rintro σ H4 ⟨kvs4,v5,v6,v7,rfl,b4,kX,hv4⟩;have nk:kk≠kn:=λz=>by
     obtain⟨xs,e,_⟩:=jJ.nt;rw[z,e] at vI;cases vI
    refine⟨_,rfl,ac,C,dx,_,.ref kn,rfl,kX.ob,AC.cls,AC.known,rfl,_,rfl,kn,kk,_,kvs4,_,rfl,rfl,kX.nt,htl (b4 _ _ vI nk),hv4,?_⟩;exact q0 H4 kvs4 ((But.of s2).trans b4) kX
theorem qO0{fA fQ fO fM fT C:Addr}{fdA fdQ fdO fdM fdT:FuncData}(FA:Fun K "across" "Account.across" qM5 fA fdA)(AC:AcC K C)(B:Blt mg)(Tc:Cst mg)(hem:∃t,mg "EMPTY" = some (.int 0 t))(hQ:mg "quarters_of" = some (.ref fQ))(FQ:Fun K "quarters_of" "quarters_of" qF4 fQ fdQ)(bQ:Binds K fdQ ["rows", "number"] [])
  (FO:Fun K "over_both" "Account.over_both" qA5 fO fdO) (MO:Meth K C "over_both" fO) (bO:Binds K fdO nOv3 []) (MM:Meth K C "in_the_middle" fM) (FM:Fun K "in_the_middle" "Account.in_the_middle" qv1 fM fdM) (bM:Binds K fdM nMid [])
  (hT:mg "turned_about" = some (.ref fT)) (FT:Fun K "turned_about" "turned_about" qi9 fT fdT) (bT:Binds K fdT ["four"] []) (MA:Meth K C "across" fA) (bA:Binds K fdA nAc4 []) :
  ∀m,FnOk P w K mg base CX0 (2*m+3) fA fdA nAc4 (xk5 P w C m)/\FnOk P w K mg base CX0 (2*m+4) fO fdO nOv3 (spOv P w C m)
 |0=>by
  have G:=xe2 (P:=P) (w:=w) (base:=base) (m:=0) (k:=0) (S:=λ_ _ _ _=>False) FA AC B Tc hem hQ FQ bQ MO bO ⟨λ_ _ _ _ h=>h.elim,λ_ _ _ _ _ _ _ _ _ _ _ _ _ h=>h.elim⟩ (.inl rfl) MM FM bM;exact⟨G,xr7 (k:=2) FO AC hT FT bT MA bA G⟩
 |m+1=>by
  have ih:=(qO0 FA AC B Tc hem hQ FQ bQ FO MO bO MM FM bM hT FT bT MA bA m).2;have G:=xe2 (P:=P) (w:=w) (base:=base) (m:=m+1) (k:=2*m+2) FA AC B Tc hem hQ FQ bQ MO bO ih (.inr ⟨m,rfl,rfl⟩) MM FM bM;exact⟨G,xr7 (k:=2*m+4) FO AC hT FT bT MA bA G⟩
end
inductive spTog_(P:Program)(w:World)(C:Addr)(vs:List V)(H:Hp)(Q:VK):Prop
 |mk(ac dx rp cp kn q:Addr)(rows:List Row)(kvs:List (List Key×V))(a b c d:Nat)(e0:vs=[.ref ac,.ref q])(e1:AcAt P w H C ac dx rp cp kn rows kvs)(e2:qb3 rows/\rows.length<=1000)(e3:H q=some (.tup (vN [a,b,c,d])))(e4:∀x∈[a,b,c,d],x<rows.length+2/\Tr.dep (T rows x)<=14)
  (e6:∀H' kvs',But kn H H'->AcAt P w H' C ac dx rp cp kn rows kvs'->Q (.int (togF 14 ⟨T rows a,T rows b,T rows c,T rows d⟩)) H')
def xs1(P:Program)(w:World)(C:Addr):Sp:=λvs H Q _=>spTog_ P w C vs H Q
section
variable{P:Program}{w:World}{K:PySem.W.Frag}{mg:Str->Option Value}{base:Heap}
theorem xx6:FnScope nMid nMid (qa5 q01):=qd4
theorem xs2{f fO fM C:Addr}{fd fdO fdM:FuncData}{k:Nat}(F:Fun K "together" "Account.together" q01 f fd)(AC:AcC K C)(B:Blt mg)
  (MO:Meth K C "over_both" fO) (bO:Binds K fdO nOv3 []) (GO:FnOk P w K mg base CX0 (k+1) fO fdO nOv3 (spOv P w C 14))
  (MM:Meth K C "in_the_middle" fM) (FM:Fun K "in_the_middle" "Account.in_the_middle" qv1 fM fdM) (bM:Binds K fdM nMid []):FnOk P w K mg base CX0 (k+2) f fd nMid (xs1 P w C):=by
 have GM:FnOk P w K mg base CX0 1 fM fdM nMid (xk4 C):=xe1 FM AC B;refine F.ok xx6 (λvs H Q E h=>?_) (λcdv A outer s H vs Q E hr h=>?_)
 ·obtain⟨ac,dx,rp,cp,kn,q,rows,kvs,a,b,c,d,rfl,_⟩:=h
  rfl
 ·obtain⟨ac,dx,rp,cp,kn,q,rows,kvs,a,b,c,d,rfl,hA,hok,hq,hx,q0⟩:=h;have j8:Room 1 _:=hr.mono (by lia);refine qg2 ⟨_,⟨qb1 (qa6 qb5 (qa6 qb5 (PEb.go ⟨qg6 (pv 0) AC.cls MO GO hr bO .nil qm3 (qa0 (pv 1) (qa0 qk6 qa2))⟩) (PEb.go ⟨qg6 (pv 0) AC.cls MO GO hr bO .nil qm3 (qa0 (pv 1) (qa0 qk6 qa2))⟩)) (PEb.go ⟨qg6 (pv 0) AC.cls MM GM j8 bM .nil qm3 (qa0 (pv 1) qa2)⟩))⟩,?_⟩;refine⟨_,rfl,ac,dx,_,rfl,hA.ob,rfl,_,rfl,ac,dx,rp,cp,kn,q,rows,kvs,a,b,c,d,false,rfl,hA,hok,hq,hx,by decide,λH2 kvs2 b2 jJ=>?_⟩;have kB:=b2 _ _ hq (hA.ne_tup hq);refine⟨_,rfl,ac,dx,_,rfl,jJ.ob,rfl,_,rfl,ac,dx,rp,cp,kn,q,rows,kvs2,a,b,c,d,true,rfl,jJ,hok,kB,hx,by decide,λH3 kvs3 b3 kH=>?_⟩;have hq3:=b3 _ _ kB (jJ.ne_tup kB);refine⟨_,_,rfl,rfl,_,rfl,ac,dx,_,rfl,kH.ob,rfl,_,rfl,ac,q,dx,rp,cp,kn,rows,rows.length,a,b,c,d,rfl,kH.ob,kH.cr,hq3,λz hz=>(hx z hz).1,λH4 s4=>?_⟩;exact⟨_,_,rfl,rfl,q0 H4 kvs3 (b2.trans (b3.trans (But.of s4))) (kH.same s4)⟩
end
end Pr
namespace Qf
open Tr
theorem q32{k m:Nat}{up:Bool}{a b c d:Tr}(ha:dep a<=k)(hb:dep b<=k)(hc:dep c<=k)(hd:dep d<=k)(hm:k<=m):ovb m up ⟨a,b,c,d⟩=ovb k up ⟨a,b,c,d⟩:=by
 unfold ovb;cases up with
 |true=>
  show acr m true a c+acr m true b d=acr k true a c+acr k true b d;rw[qq1 true a c ha hc hm,qq1 true b d hb hd hm]
 |false=>
  show acr m false a b+acr m false c d=acr k false a b+acr k false c d;rw[qq1 false a b ha hb hm,qq1 false c d hc hd hm]
theorem qO1{k m:Nat}{a b c d:Tr}(ha:dep a<=k)(hb:dep b<=k)(hc:dep c<=k)(hd:dep d<=k)(hm:k<=m):togF m ⟨a,b,c,d⟩=togF k ⟨a,b,c,d⟩:=by
 unfold togF;rw[q32 ha hb hc hd hm,q32 ha hb hc hd hm]
theorem qB4(a b c d:Tr):dep a<=dep (.nd a b c d)-1/\dep b<=dep (.nd a b c d)-1/\dep c<=dep (.nd a b c d)-1/\dep d<=dep (.nd a b c d)-1:=by
 have h:∀{i:Nat},i<4->dep (qr i (.nd a b c d))<=dep (.nd a b c d)-1:=λhi=>qw4 hi (by lia);exact⟨h (i:=0) (by decide),h (i:=1) (by decide),h (i:=2) (by decide),h (i:=3) (by decide)⟩
theorem xa2{a b c d:Tr}(h:dep (.nd a b c d)<=15):bal (.nd a b c d)=bal a+bal b+bal c+bal d+togF 14 ⟨a,b,c,d⟩:=by
 obtain⟨ha,hb,hc,hd⟩:=qB4 a b c d;rw[qO1 ha hb hc hd (m:=14) (by lia)]
 rfl
def sm:Nat->(Nat->Int)->Int
 |0,_=>0
 |n+1,f=>sm n f+f n
theorem qe3{f g:Nat->Int}:∀{n:Nat},(∀i,i<n->f i=g i)->sm n f=sm n g
 |0,_=>rfl
 |n+1,h=>by
  show sm n f+f n=sm n g+g n;rw[qe3 λi hi=>h i (by lia),h n (by lia)]
theorem qk9{f g h:Nat->Int}{a b:Int}(e:∀i,h i=a*f i+b*g i):∀n,sm n h=a*sm n f+b*sm n g
 |0=>by show (0:Int)=a*0+b*0;lia
 |n+1=>by
  show sm n h+h n=a*(sm n f+f n)+b*(sm n g+g n);rw[qk9 e n,e n];grind
theorem qe4(c:Int):∀n:Nat,sm n (λ_=>c)=n*c
 |0=>by show (0:Int)=((0:Nat):Int)*c;simp
 |n+1=>by
  show sm n _+c=((n+1:Nat):Int)*c;rw[qe4 c n];push_cast;grind
def Rr(h:Nat)(G:Nat->Nat->Int):Int:=sm h (λi=>G i i)-sm (h-1) λi=>G i (i+1)
theorem qq2(h:Nat)(G:Nat->Nat->Int):Rr (h+2) G=Rr (h+1) G+G (h+1) (h+1)-G h (h+1):=by
 unfold Rr;show sm (h+1) _+G (h+1) (h+1)-(sm h _+G h (h+1))=_-sm h _+_-_;lia
theorem qG9(G:Nat->Nat->Int):Rr 1 G=G 0 0:=by
 unfold Rr;show (0+G 0 0)-0=G 0 0;lia
theorem qk4{h:Nat}{G F:Nat->Nat->Int}(e:∀i k,i<h->k<h->G i k=F i k):Rr h G=Rr h F:=by
 unfold Rr;rw[qe3 λi hi=>e i i hi hi,qe3 (n:=h-1) λi hi=>e i (i+1) (by lia) (by lia)]
theorem qh9(p:Nat)(G:Nat->Nat->Int)(hp:0<p):∀q,0<q->Rr (p+q) G=Rr p G+Rr q (λi k=>G (p+i) (p+k))-G (p-1) p
 |0,h=>absurd h (by decide)
 |1,_=>by
  obtain⟨a,rfl⟩:∃a,p=a+1:=⟨p-1,by lia⟩;rw[qG9,qq2]
  rfl
 |q+2,_=>by
  have ih:=qh9 p G hp (q+1) (by lia);rw[qq2 q];obtain⟨a,rfl⟩:∃a,p=a+1:=⟨p-1,by lia⟩;have e:a+1+(q+2)=(a+1+q)+2:=by lia
  rw[e,qq2,show a+1+q+1=a+1+(q+1) by lia,ih];show _+G (a+1+(q+1)) (a+1+(q+1))-G (a+1+q) (a+1+(q+1))=_;lia
theorem q33{G F E:Nat->Nat->Int}{a b:Int}(e:∀i k,E i k=a*F i k+b*G i k)(h:Nat):Rr h E=a*Rr h F+b*Rr h G:=by
 unfold Rr;rw[qk9 (λi=>e i i) h,qk9 (λi=>e i (i+1)) (h-1)]
 grind
theorem qB5(c:Int){h:Nat}(hh:0<h):Rr h (λ_ _=>c)=c:=by
 unfold Rr;rw[qe4,qe4];obtain⟨a,rfl⟩:∃a,h=a+1:=⟨h-1,by lia⟩;show ((a+1:Nat):Int)*c-(a:Nat)*c=c;push_cast
 grind
theorem q34{G:Nat->Nat->Int}{ρ:Nat->Nat}(h0:ρ 0=0):∀n,(∀i,i<n->ρ (i+1)=ρ i\/ρ (i+1)=ρ i+1)->Rr (n+1) (λi k=>G (ρ i) (ρ k))=Rr (ρ n+1) G
 |0,_=>by rw[qG9,h0,qG9]
 |n+1,hs=>by
  rw[qq2,q34 h0 n λi hi=>hs i (by lia)];rcases hs n (by lia) with e|e
  ·rw[e];lia
  ·rw[e,qq2]
def bi(b:Bool):Int:=if b then 1 else 0
def ru(w:Nat)(z:Nat->Bool):Int:=Rr w λj l=>bi (z j&&z l)
theorem qd0{w:Nat}{y z:Nat->Bool}(e:∀j,j<w->y j=z j):ru w y=ru w z:=qk4 λi k hi hk=>by rw[e i hi,e k hk]
theorem qn8(w:Nat):ru w (λ_=>false)=0:=by
 unfold ru Rr;show sm w (λ_=>0)-sm (w-1) (λ_=>0)=0;rw[qe4,qe4];simp
theorem qJ9{w:Nat}(h:0<w):ru w (λ_=>true)=1:=qB5 1 h
theorem xa3(p:Nat)(z:Nat->Bool)(hp:0<p){q:Nat}(hq:0<q):ru (p+q) z=ru p z+ru q (λj=>z (p+j))-bi (z (p-1)&&z p):=qh9 p _ hp q hq
theorem qn9(p:Nat)(z:Nat->Bool)(hp:0<p){q:Nat}(hq:0<q)(a b:Nat->Bool)(ha:∀j,j<p->z j=a j)(hb:∀j,j<q->z (p+j)=b j):ru (p+q) z=ru p a+ru q b-bi (a (p-1)&&b 0):=by
 rw[xa3 p z hp hq,qd0 ha,qd0 hb,ha (p-1) (by lia)];have:=hb 0 hq;rw[Yk] at this;rw[this]
def gE(h w:Nat)(f:Nat->Nat->Bool):Int:=Rr h λi k=>ru w λj=>f i j&&f k j
theorem qe0{h w:Nat}{f g:Nat->Nat->Bool}(e:∀i j,i<h->j<w->f i j=g i j):gE h w f=gE h w g:=qk4 λi k hi hk=>qd0 λj hj=>by rw[e i j hi hj,e k j hk hj]
theorem qO2(h w:Nat):gE h w (λ_ _=>false)=0:=by
 unfold gE Rr;show sm h (λ_=>ru w λ_=>false)-sm (h-1) (λ_=>ru w λ_=>false)=0;rw[qn8,qe4,qe4];simp
theorem xk7{h w:Nat}(hh:0<h)(hw:0<w):gE h w (λ_ _=>true)=1:=by
 show Rr h (λ_ _=>ru w λ_=>true)=1;rw[qJ9 hw,qB5 1 hh]
theorem xs3(a b c d:Bool):bi ((a&&b)&&(c&&d))=bi ((a&&c)&&(b&&d)):=by cases a<;>cases b<;>cases c<;>cases d<;>rfl
theorem qK0{h p:Nat}(f:Nat->Nat->Bool)(hp:0<p){q:Nat}(hq:0<q):gE h (p+q) f=gE h p f+gE h q (λi j=>f i (p+j))-ru h (λi=>f i (p-1)&&f i p):=by
 unfold gE ru;have e:∀i k,(Rr (p+q) λj l=>bi ((f i j&&f k j)&&(f i l&&f k l)))=1*((Rr p λj l=>bi ((f i j&&f k j)&&(f i l&&f k l)))+1*(Rr q λj l=>bi ((f i (p+j)&&f k (p+j))&&(f i (p+l)&&f k (p+l)))))+(-1)*bi ((f i (p-1)&&f i p)&&(f k (p-1)&&f k p)):=λi k=>by
  rw[qh9 p _ hp q hq,xs3 (f i (p-1)) (f i p)];lia
 rw[q33 e h];rw[q33 (E:=λi k=>(Rr p λj l=>bi ((f i j&&f k j)&&(f i l&&f k l)))+1*(Rr q λj l=>bi ((f i (p+j)&&f k (p+j))&&(f i (p+l)&&f k (p+l))))) (a:=1) (b:=1) (F:=λi k=>Rr p λj l=>bi ((f i j&&f k j)&&(f i l&&f k l))) (G:=λi k=>Rr q λj l=>bi ((f i (p+j)&&f k (p+j))&&(f i (p+l)&&f k (p+l)))) (λi k=>by lia) h];dsimp only;lia
theorem qK1{w p:Nat}(f:Nat->Nat->Bool)(hp:0<p){q:Nat}(hq:0<q):gE (p+q) w f=gE p w f+gE q w (λi j=>f (p+i) j)-ru w (λj=>f (p-1) j&&f p j):=qh9 p _ hp q hq
def neg:Tr->Tr
 |.z=>.o
 |.o=>.z
 |.nd a b c d=>.nd (neg a) (neg b) (neg c) (neg d)
theorem neg_neg:∀t,neg (neg t)=t
 |.z=>rfl
 |.o=>rfl
 |.nd a b c d=>by
  show Tr.nd (neg (neg a)) (neg (neg b)) (neg (neg c)) (neg (neg d))=_;rw[neg_neg a,neg_neg b,neg_neg c,neg_neg d]
theorem ql6:∀t,dep (neg t)=dep t
 |.z=>rfl
 |.o=>rfl
 |.nd a b c d=>by
  show 1+mx [dep (neg a),dep (neg b),dep (neg c),dep (neg d)]=1+mx [dep a,dep b,dep c,dep d];rw[ql6 a,ql6 b,ql6 c,ql6 d]
theorem qd7(rows:List Row):(exr rows).length=rows.length:=by simp[exr]
theorem xs4{rows:List Row}{p:Nat}{r:Row}(h:rows[p]?=some r):(exr rows)[p]?=some (r.map ex):=by
 unfold exr;rw[Zg,h];rfl
theorem xk8{q:Nat}(h:¬q<2):ex q=q:=Zh h
theorem xk9{rows:List Row}(ok:qb3 rows):∀x,x<rows.length+2->T (exr rows) (ex x)=neg (T rows x):=by
 intro x
 induction x using Nat.strongRecOn with
 |ind x ih=>
  intro hx;by_cases z:x<2
  ·match x,z with
   |0,_=>rw[qf1];exact qh7 _
   |1,_=>rw[qh7];exact qf1 _
  ·obtain⟨p,a,b,c,d,rfl,hp⟩:=qr6 ok hx z;have j5:=(ok p _ hp).2;have jF:=(gS_ hp).1;have la:=j5 a (by simp);have lb:=j5 b (by simp);have lc:=j5 c (by simp);have ld:=j5 d (by simp);rw[xk8 z,qi3 ok hp,qi3 (xd1 ok) (xs4 hp),ih a (by lia) (by lia),ih b (by lia) (by lia),ih c (by lia) (by lia),ih d (by lia) (by lia)]
   rfl
theorem qo0{Pd:Tr->Prop}(cl:∀a b c d,Pd (.nd a b c d)->Pd a/\Pd b/\Pd c/\Pd d):∀(t:Tr)(e:List Tr),Pd t->(∀s∈e,Pd s)->∀s∈post t e,Pd s
 |.z,e,_,h=>h
 |.o,e,_,h=>h
 |.nd a b c d,e,ht,h=>by
  obtain⟨h1,h2,h3,h4⟩:=cl a b c d ht;intro s hs;unfold post at hs;split at hs
  ·exact h s hs
  ·rcases Yi.mp hs with hs|hs
   ·exact qo0 cl d _ h4 (qo0 cl c _ h3 (qo0 cl b _ h2 (qo0 cl a _ h1 h))) s hs
   ·have:s=.nd a b c d:=by simpa using hs
    rw[this];exact ht
theorem qc0(m:Nat):0<2^m:=W3 (by decide)
theorem qe7(m:Nat):2^(m+1)=2^m+2^m:=by rw[Yy];lia
theorem xa4{m:Nat}(t:Tr){a b i j:Nat}(ha:a<2)(hb:b<2)(hi:i<2^m)(hj:j<2^m):cellT (m+1) t (2^m*a+i) (2^m*b+j)=cellT m (qr (2*a+b) t) i j:=by
 show cellT m (qr (2*((2^m*a+i)/2^m%2)+(2^m*b+j)/2^m%2) t) _ _=_;rw[WB (qc0 m),WB (qc0 m),YQ hi,YQ hj,qn5];congr 2;lia
theorem qj3{m:Nat}(t:Tr){i j:Nat}(hi:i<2^m)(hj:j<2^m):cellT (m+1) t i j=cellT m (qr 0 t) i j:=by
 have:=xa4 t (a:=0) (b:=0) (by decide) (by decide) hi hj;simpa using this
theorem qj4{m:Nat}(t:Tr){i j:Nat}(hi:i<2^m)(hj:j<2^m):cellT (m+1) t i (2^m+j)=cellT m (qr 1 t) i j:=by
 have:=xa4 t (a:=0) (b:=1) (by decide) (by decide) hi hj;simpa using this
theorem qj5{m:Nat}(t:Tr){i j:Nat}(hi:i<2^m)(hj:j<2^m):cellT (m+1) t (2^m+i) j=cellT m (qr 2 t) i j:=by
 have:=xa4 t (a:=1) (b:=0) (by decide) (by decide) hi hj;simpa using this
theorem qj6{m:Nat}(t:Tr){i j:Nat}(hi:i<2^m)(hj:j<2^m):cellT (m+1) t (2^m+i) (2^m+j)=cellT m (qr 3 t) i j:=by
 have:=xa4 t (a:=1) (b:=1) (by decide) (by decide) hi hj;simpa using this
theorem xa5(t:Tr){k:Nat}(hk:k<4):cor t k=cor (qr k t) k:=by
 cases t with
 |z|o=>rfl
 |nd a b c d=>
  match k,hk with
  |0,_|1,_|2,_|3,_=>rfl
theorem qd2:∀(m:Nat)(t:Tr),dep t<=m->cor t 0=cellT m t 0 0/\cor t 1=cellT m t 0 (2^m-1)/\cor t 2=cellT m t (2^m-1) 0/\cor t 3=cellT m t (2^m-1) (2^m-1)
 |0,t,h=>by rcases qG7 h with rfl|rfl<;>exact⟨rfl,rfl,rfl,rfl⟩
 |m+1,t,h=>by
  have hp:=qc0 m;have e:2^(m+1)-1=2^m+(2^m-1):=by rw[qe7];lia
  have d:∀{k},k<4->dep (qr k t)<=m:=λhk=>qw4 hk h;rw[e,qj3 t hp hp,qj4 t hp (by lia),qj5 t (by lia) hp,qj6 t (by lia) (by lia),xa5 t (k:=0) (by decide),xa5 t (k:=1) (by decide),xa5 t (k:=2) (by decide),xa5 t (k:=3) (by decide)];exact⟨(qd2 m _ (d (by decide))).1,(qd2 m _ (d (by decide))).2.1,(qd2 m _ (d (by decide))).2.2.1,(qd2 m _ (d (by decide))).2.2.2⟩
def zl(m:Nat)(up:Bool)(s t:Tr)(i:Nat):Bool:=if up then cellT m s (2^m-1) i&&cellT m t 0 i else cellT m s i (2^m-1)&&cellT m t i 0
theorem qr7:∀(m:Nat)(up:Bool)(s t:Tr),dep s<=m->dep t<=m->acr m up s t=- ru (2^m) (zl m up s t)
 |0,up,s,t,hs,ht=>by
  show (if s=.z\/t=.z then 0 else -1)=- ru 1 (zl 0 up s t);unfold ru;rw[qG9];rcases qG7 hs with rfl|rfl<;>rcases qG7 ht with rfl|rfl<;>cases up<;>simp[zl,cellT,bi]
 |m+1,up,s,t,hs,ht=>by
  have hp:=qc0 m;by_cases h1:s=.z\/t=.z
  ·show (if _ then (0:Int) else _)=_;rw[Zm h1,qd0 (z:=λ_=>false) λj _=>?_,qn8]
   ·rfl
   ·unfold zl;rcases h1 with rfl|rfl<;>cases up<;>simp[qw3]
  ·by_cases h2:s=.o/\t=.o
   ·show (if _ then (0:Int) else if _ then (-1:Int) else _)=_;rw[Zh h1,Zm h2,qd0 (z:=λ_=>true) λj _=>?_,qJ9 (qc0 _)];obtain⟨rfl,rfl⟩:=h2;unfold zl;cases up<;>simp[qg8]
   ·rw[qs6 h1 h2];have d:∀{k},k<4->dep (qr k s)<=m/\dep (qr k t)<=m:=λhk=>⟨qw4 hk hs,qw4 hk ht⟩;have e:2^(m+1)-1=2^m+(2^m-1):=by rw[qe7];lia
    have bm:∀a b c d:Bool,(if (a&&b&&c&&d)=true then (1:Int) else 0)=bi ((a&&b)&&(c&&d)):=λa b c d=>by cases a<;>cases b<;>cases c<;>cases d<;>rfl
    have bm2:∀a b c d:Bool,(if (a&&b&&c&&d)=true then (1:Int) else 0)=bi ((a&&c)&&(b&&d)):=λa b c d=>by cases a<;>cases b<;>cases c<;>cases d<;>rfl
    cases up with
    |false=>
     rw[qe7,qn9 (2^m) _ hp hp (zl m false (qr 1 s) (qr 0 t)) (zl m false (qr 3 s) (qr 2 t)) (λj hj=>?_) λj hj=>?_]
     ·have i1:=qr7 m false (qr 1 s) (qr 0 t) (d (by decide)).1 (d (by decide)).2;have i2:=qr7 m false (qr 3 s) (qr 2 t) (d (by decide)).1 (d (by decide)).2;show acr m false (qr 1 s) (qr 0 t)+acr m false (qr 3 s) (qr 2 t)+(if (cor (qr 1 s) 3&&cor (qr 0 t) 2&&cor (qr 3 s) 1&&cor (qr 2 t) 0)=true then 1 else 0)=_;rw[i1,i2,bm,(qd2 m _ (d (k:=1) (by decide)).1).2.2.2,(qd2 m _ (d (k:=0) (by decide)).2).2.2.1,(qd2 m _ (d (k:=3) (by decide)).1).2.1,(qd2 m _ (d (k:=2) (by decide)).2).1];unfold zl;simp only[Zt,ZP];lia
     ·unfold zl;simp only[Zt,ZP];rw[e,qj4 s hj (by lia),qj3 t hj hp]
     ·unfold zl;simp only[Zt,ZP];rw[e,qj6 s hj (by lia),qj5 t hj hp]
    |true=>
     rw[qe7,qn9 (2^m) _ hp hp (zl m true (qr 2 s) (qr 0 t)) (zl m true (qr 3 s) (qr 1 t)) (λj hj=>?_) λj hj=>?_]
     ·have i1:=qr7 m true (qr 2 s) (qr 0 t) (d (by decide)).1 (d (by decide)).2;have i2:=qr7 m true (qr 3 s) (qr 1 t) (d (by decide)).1 (d (by decide)).2;show acr m true (qr 2 s) (qr 0 t)+acr m true (qr 3 s) (qr 1 t)+(if (cor (qr 2 s) 3&&cor (qr 3 s) 2&&cor (qr 0 t) 1&&cor (qr 1 t) 0)=true then 1 else 0)=_;rw[i1,i2,bm2,(qd2 m _ (d (k:=2) (by decide)).1).2.2.2,(qd2 m _ (d (k:=3) (by decide)).1).2.2.1,(qd2 m _ (d (k:=0) (by decide)).2).2.1,(qd2 m _ (d (k:=1) (by decide)).2).1];unfold zl;simp only[Yt];lia
     ·unfold zl;simp only[Yt];rw[e,qj5 s (by lia) hj,qj3 t hp hj]
     ·unfold zl;simp only[Yt];rw[e,qj6 s (by lia) hj,qj4 t hp hj]
theorem xs5{m:Nat}{a b c d:Tr}(ha:dep a<=m)(hb:dep b<=m)(hc:dep c<=m)(hd:dep d<=m):bal (.nd a b c d)=bal a+bal b+bal c+bal d+togF m ⟨a,b,c,d⟩:=by
 obtain⟨h1,h2,h3,h4⟩:=qB4 a b c d;have hm:dep (.nd a b c d)-1<=m:=by
  have:=qG4 ha hb hc hd;lia
 rw[qO1 h1 h2 h3 h4 hm]
 rfl
theorem qy6:∀(m:Nat)(t:Tr),dep t<=m->bal t=gE (2^m) (2^m) (cellT m t)
 |m,.z,_=>by rw[qe0 (g:=λ_ _=>false) λi j _ _=>qw3 m i j,qO2];rfl
 |m,.o,_=>by rw[qe0 (g:=λ_ _=>true) λi j _ _=>qg8 m i j,xk7 (qc0 m) (qc0 m)];rfl
 |0,.nd a b c d,h=>absurd h (by show ¬1+_<=0;lia)
 |m+1,.nd a b c d,h=>by
  obtain⟨ha,hb,hc,hd⟩:=q22 h;have hp:=qc0 m;have e:2^(m+1)-1=2^m+(2^m-1):=by rw[qe7];lia
  rw[xs5 ha hb hc hd,qe7,qK1 _ hp hp,qK0 _ hp hp,qK0 _ hp hp];have q0:gE (2^m) (2^m) (cellT (m+1) (.nd a b c d))=bal a:=by
   rw[qy6 m a ha];exact qe0 λi j hi hj=>qj3 _ hi hj
  have q1:(gE (2^m) (2^m) λi j=>cellT (m+1) (.nd a b c d) i (2^m+j))=bal b:=by
   rw[qy6 m b hb];exact qe0 λi j hi hj=>qj4 _ hi hj
  have q2:(gE (2^m) (2^m) λi j=>cellT (m+1) (.nd a b c d) (2^m+i) j)=bal c:=by
   rw[qy6 m c hc];exact qe0 λi j hi hj=>qj5 _ hi hj
  have q3:(gE (2^m) (2^m) λi j=>cellT (m+1) (.nd a b c d) (2^m+i) (2^m+j))=bal d:=by
   rw[qy6 m d hd];exact qe0 λi j hi hj=>qj6 _ hi hj
  rw[q0,q1,q2,q3];have s1:(ru (2^m) λi=>cellT (m+1) (.nd a b c d) i (2^m-1)&&cellT (m+1) (.nd a b c d) i (2^m))=- acr m false a b:=by
   rw[qr7 m false a b ha hb,Int.neg_neg];refine qd0 λi hi=>?_;have:=qj4 (.nd a b c d) hi hp;simp only[Yk] at this;rw[qj3 _ hi (by lia),this]
   rfl
  have s2:(ru (2^m) λi=>cellT (m+1) (.nd a b c d) (2^m+i) (2^m-1)&&cellT (m+1) (.nd a b c d) (2^m+i) (2^m))=- acr m false c d:=by
   rw[qr7 m false c d hc hd,Int.neg_neg];refine qd0 λi hi=>?_;have:=qj6 (.nd a b c d) hi hp;simp only[Yk] at this;rw[qj5 _ hi (by lia),this]
   rfl
  have s3:(ru (2^m+2^m) λj=>cellT (m+1) (.nd a b c d) (2^m-1) j&&cellT (m+1) (.nd a b c d) (2^m) j)=- acr m true a c-acr m true b d-midF ⟨a,b,c,d⟩:=by
   rw[qn9 (2^m) _ hp hp (zl m true a c) (zl m true b d) (λj hj=>?_) λj hj=>?_,qr7 m true a c ha hc,qr7 m true b d hb hd]
   ·have bm:midF ⟨a,b,c,d⟩=bi (zl m true a c (2^m-1)&&zl m true b d 0):=by
     show (if (cor a 3&&cor b 2&&cor c 1&&cor d 0)=true then (1:Int) else 0)=_;rw[(qd2 m _ ha).2.2.2,(qd2 m _ hb).2.2.1,(qd2 m _ hc).2.1,(qd2 m _ hd).1];unfold zl;simp only[Yt];generalize cellT m a _ _=x1;generalize cellT m b _ _=x2;generalize cellT m c _ _=x3;generalize cellT m d _ _=x4;cases x1<;>cases x2<;>cases x3<;>cases x4<;>rfl
    rw[bm];lia
   ·have h1:=qj5 (.nd a b c d) hp hj;simp only[Yk] at h1;rw[qj3 _ (by lia) hj,h1]
    rfl
   ·have h1:=qj6 (.nd a b c d) hp hj;simp only[Yk] at h1;rw[qj4 _ (by lia) hj,h1]
    rfl
  rw[s1,s2,s3];show bal a+bal b+bal c+bal d+(acr m false a b+acr m false c d+(acr m true a c+acr m true b d)+midF _)=_;lia
end Qf
namespace L2
open PySem PySem.Spec PyProof.Rows
section
variable{X:Cx}
theorem qK2(ns:List Int):∀n,n<=ns.length->preSum (λi=>ns.getD i 0) n=(ns.take n).sum:=by
 intro n
 induction n with
 |zero=>intro _;simp[preSum]
 |succ n ih=>
  intro h;have hn:n<ns.length:=h;rw[preSum,ih (Wc hn),Z7 hn,List.sum_append];simp[List.getD,hn]
theorem q35(hc:X.calm=true):qg4 X (.builtin "sum") (λxs H Q=>∃(p:Addr)(ns:List Int),xs=[.ref p]/\H p=some (.lst (ns.map V.int))/\Q (.int ns.sum) H):=by
 intro j1 s σ H xs us Q I r h;obtain⟨p,ns,rfl,hp,q⟩:=h;obtain⟨u,rfl,rx⟩:=qi2 r;cases rx;obtain⟨z,its,n,rv,hl⟩:=I.hok p _ hp;have isl:s.heap.IsList p its.toArray:=⟨_,hl,rfl,_,rfl⟩;have j2:its.length=ns.length:=by have:=rv.length;simpa using this.symm
 have np:p≠s.heap.objs.size:=ZB (Zr hl);refine call_sum_walkAnyB (Xs isl ?_);refine⟨s.heap.objs.size,_,_,_,_,_,_,λi=>ns.getD i 0,rfl,(Walks.list (A:=X.A.in1) (I.ok.hd hc) s.heap.objs.size p np its.toArray).toS,⟨⟨_,Zj _ rfl,rfl,rfl⟩,isl.at λo e=>Zc _ e⟩,?_,?_,?_⟩
 ·intro b hb;rw[YC];rcases Zv.mp hb with rfl|hb
  ·exact ZL _
  ·have:b=p:=by simpa using hb
   subst this;exact Y2 (Zr hl)
 ·intro i v hv;have hv':its[i]?=some v:=by simpa using hv
  have hi:i<ns.length:=by rw[<- j2];exact (gS_ hv').1
  obtain⟨w',e1,t,e2⟩:=rv.get (x:=V.int (ns[i])) (i:=i) (by simp[hi]);rw[hv'] at e1;cases e1;exact .inl ⟨t,by rw[e2];simp[List.getD,hi]⟩
 ·intro s' t' mv;have es:its.toArray.size=ns.length:=by simpa using j2
  refine⟨.int ns.sum,H,qE8 I mv λb o e hb=>?_,⟨t',?_⟩,q⟩
  ·have:b=s.heap.objs.size:=by simpa using hb
   exact Ym _ (by rw[this] at e;exact Zr e)
  ·rw[es,qK2 ns _ (Zf _),YS]
end
end L2
namespace Qf
open Tr
def balL(rows:List Row)(i:Nat):List Int:=0::1::(List.range i).map λp=>bal (T rows (p+2))
theorem xa6(rows:List Row)(i:Nat):(balL rows i).length=i+2:=by simp[balL]
theorem q36{rows:List Row}{i x:Nat}(h:x<i+2):(balL rows i)[x]?=some (bal (T rows x)):=by
 match x,h with
 |0,_=>rw[qf1];rfl
 |1,_=>rw[qh7];rfl
 |x+2,h=>
  show ((List.range i).map λp=>bal (T rows (p+2)))[x]?=_;rw[Zg,XJ (by lia)]
  rfl
theorem q37(rows:List Row)(i:Nat):balL rows (i+1)=balL rows i++[bal (T rows (i+2))]:=by
 unfold balL;rw[Yb,ZE]
 rfl
end Qf
namespace Pr
open PySem L2 Qf
abbrev nOf:List Str:=["self", "top", "counts", "row"]
inductive spOf_(P:Program)(w:World)(C:Addr)(vs:List V)(H:Hp)(Q:VK):Prop
 |mk(ac dx rp cp kn:Addr)(rows:List Row)(kvs:List (List Key×V))(x:Nat)(e0:vs=[.ref ac,.int (x:Nat)])(e1:AcAt P w H C ac dx rp cp kn rows kvs)(e2:qb3 rows/\rows.length<=1000)(e3:x<rows.length+2)(e4:∀x,x<rows.length+2->Tr.dep (T rows x)<=15)
  (e5:∀H',But kn H H'->Q (.int (bal (T rows x))) H')
def spOf(P:Program)(w:World)(C:Addr):Sp:=λvs H Q _=>spOf_ P w C vs H Q
section
variable{P:Program}{w:World}{K:PySem.W.Frag}{mg:Str->Option Value}{base:Heap}
theorem AcAt.lst{H:Hp}{C ac dx rp cp kn D:Addr}{rows:List Row}{kvs:List (List Key×V)}{xs ys:List V}(h:AcAt P w H C ac dx rp cp kn rows kvs)(hd:H D=some (.lst xs))(ne:cp≠D):AcAt P w (upd H D (.lst ys)) C ac dx rp cp kn rows kvs:=by
 have t:∀b o,H b=some o->(∀zs,o≠.lst zs)->upd H D (.lst ys) b=some o:=λb o e n=>by
  rw[qa7 λz=>n xs (by rw[z,hd] at e;exact (ZC e).symm)];exact e
 refine⟨t _ _ h.ob (λ_ z=>by cases z),h.rw_.mono (λq v e=>t _ _ e (λ_ z=>by cases z)),?_,h.nt.mono (λb xs e=>t _ _ e (λ_ z=>by cases z)) (λo e=>t _ _ e (λ_ z=>by obtain⟨zs,e2,_⟩:=h.nt;rw[z] at e;exact nomatch e.symm.trans e2)),h.rt,h.nd,h.ks⟩;obtain⟨bs,h1,h2,h3⟩:=h.cr;exact⟨bs,by rw[qa7 ne];exact h1,h2,λx b e=>t _ _ (h3 x b e) (λ_ z=>by cases z)⟩
theorem scOf:FnScope nOf ["self", "top"] (qa5 q80):=qd4
theorem xx7{f fG C:Addr}{fd fdG:FuncData}{k:Nat}(F:Fun K "of_number" "Account.of_number" q80 f fd)(AC:AcC K C)(hsm:mg "sum" = none)
  (MG:Meth K C "together" fG) (bG:Binds K fdG nMid []) (GG:FnOk P w K mg base CX0 (k+1) fG fdG nMid (xs1 P w C)):FnOk P w K mg base CX0 (k+2) f fd ["self", "top"] (spOf P w C):=by
 refine F.ok scOf (λvs H Q E h=>?_) (λcdv A outer s H vs Q E hr h=>?_)
 ·obtain⟨ac,dx,rp,cp,kn,rows,kvs,x,rfl,_⟩:=h
  rfl
 ·obtain⟨ac,dx,rp,cp,kn,rows,kvs,x,rfl,hA,hok,hx,jT,q⟩:=h;refine seqE ⟨_,⟨psN 2 scOf.nd (qk8 (qa0 qa3 (qa0 qa3 qa2)))⟩,?_⟩;refine seqE ⟨_,⟨qh0 Z0 rfl (qt3 (qt7 (pv 0) rfl)) (pgN 3 scOf.nd)
    (StB.go (.one ⟨ql0 (xg4 Wb XR XS qm2 (pv 2) (qa0 (PEb.go ⟨qa6 qb5 (PEb.go ⟨qa8 (q35 rfl) (by rfl) hsm PyProof.Rows.boot_sum
     (qa0 (qh5 nOf (qa5 q80) rfl rfl rfl scOf.nd (qt3 (pv 3)) (λcl C fp s₀ H₀=>pxN (ixL K rfl) (pv 3) (pv 0))) qa2)⟩)
     (PEb.go ⟨qg6 (pv 0) AC.cls MG GG hr bG .nil qm3 (qa0 (pv 3) qa2)⟩)⟩) qa2))⟩))⟩,?_⟩
  refine qg2 ⟨_,⟨qb1 (PEb.go ⟨pxN (ixL K rfl) (pv 2) (pv 1)⟩)⟩,?_⟩;refine⟨(by show 2<=sizeLine;decide),λD hD=>?_⟩;have kQ:=hA.same (qb0 (o:=.lst [.int 0,.int 1]) hD);obtain⟨cs,hcp,_,_⟩:=id hA.cr;have ncp:cp≠D:=qa4 hcp hD;have nkn:D≠kn:=λz=>by
   obtain⟨xs,e2,_⟩:=hA.nt;rw[z,e2] at hD;cases hD
  obtain⟨bs,hp,j2,j6⟩:=id hA.rw_;have jH:(bs.map V.ref).length=rows.length:=by rw[Ze];exact j2
  have npk:rp≠kn:=hA.ne_tup hp;refine⟨_,rfl,ac,C,dx,_,.ref rp,rfl,kQ.ob,AC.cls,AC.rows,rfl,rp,rfl,⟨_,SqT.of (qb4 hp hD)⟩,qz1 (K:=K) (a:=rp) (xs:=bs.map V.ref) (λi σ H2=>But kn H H2/\H2 D=some (.lst ((balL rows i).map V.int))/\(∃kvs2,AcAt P w H2 C ac dx rp cp kn rows kvs2)/\∃v3,σ=[some (.ref ac),some (.int (x:Nat)),some (.ref D),v3])
   ⟨But.of (qb0 hD),qa1,⟨_,kQ⟩,none,rfl⟩ (λi σ H2 _ ⟨s2,_⟩=>SqT.of (s2 _ _ hp npk)) ?_ ?_⟩
  ·rintro i y σ H2 hy ⟨s2,jD,⟨kvs2,jJ⟩,v3,rfl⟩;have hi:i<rows.length:=by rw[<- jH];exact (gS_ hy).1
   rw[Zg] at hy;obtain⟨b,hb,rfl⟩:=Zl.mp hy;have j8:rows[i]?=some rows[i]:=by simp[hi]
   have hb0:=j6 i b rows[i] hb j8;have jV:=s2 _ _ hb0 (hA.ne_tup hb0);obtain⟨a0,a1,a2,a3,er⟩:=L2.os4 (hok.1 i _ j8).1;rw[er] at j8 jV;have rk:=hok.1 i _ j8;have eT:T rows (i+2)=.nd (T rows a0) (T rows a1) (T rows a2) (T rows a3):=qi3 hok.1 j8;have hd15:=jT (i+2) (by lia);rw[eT] at hd15;have hkd:=qB4 (T rows a0) (T rows a1) (T rows a2) (T rows a3);refine⟨_,rfl,.inl ⟨rfl,_,SqL.of jD⟩,_,rfl,b,rfl,⟨_,SqT.of jV⟩,λD2 k6=>qg1 k6 (λj z _=>∃x,[a0,a1,a2,a3][j]?=some x/\z=.int (bal (T rows x))) (qk0 (K:=K) jV) (by rw[qg5];show 4<sizeLine;decide) (λ_ _ _ _ _ _ h=>h) ?_ ?_⟩
   ·intro j x H3 hj hx s3 Q' hq;obtain⟨m,hm,rfl⟩:=qv2 hx;have j5:=rk.2 m (Zy hm);exact⟨_,rfl,_,rfl,D,_,(m:Int),.int (bal (T rows m)),rfl,rfl,SqL.of (s3 _ _ jD),qg7 (by rw[Zg,q36 j5];rfl),hq _ _ (Same.refl _) ⟨m,hm,rfl⟩⟩
   ·intro ys H3 s3 kD jO jN;have e2:ys=([bal (T rows a0),bal (T rows a1),bal (T rows a2),bal (T rows a3)]).map V.int:=by
     refine qh6 (by rw[jO,qg5];rfl) λj x hx=>?_;obtain⟨m,hm,rfl⟩:=jN j x hx
     match j,hm with
     |0,hm|1,hm|2,hm|3,hm=>cases hm;rfl
     |j+4,hm=>cases hm
    refine⟨D2,_,rfl,e2▸kD,?_⟩;have kH:=jJ.same s3;refine⟨_,rfl,ac,dx,_,rfl,kH.ob,rfl,_,rfl,ac,dx,rp,cp,kn,b,rows,kvs2,a0,a1,a2,a3,rfl,kH,hok,s3 _ _ jV,λz hz=>⟨by have:=rk.2 z hz;lia,?_⟩,λH4 kvs4 b4 kX=>?_⟩
    ·simp only[Zv,ZR,XA] at hz;rcases hz with rfl|rfl|rfl|rfl<;>lia
    ·have jR:=b4 _ _ (s3 _ _ jD) nkn;refine⟨_,_,rfl,rfl,D,_,_,rfl,rfl,jR,?_,?_⟩
     ·rw[Ze,xa6];exact qi0 (by lia)
     ·refine⟨λb o e n=>by rw[qa7 (qa4 e hD)];exact b4 _ _ (s3 _ _ (s2 _ _ e n)) n,?_,⟨kvs4,kX.lst jR ncp⟩,_,rfl⟩;rw[qa1,q37,ZE,eT,xa2 hd15];have es:[bal (T rows a0),bal (T rows a1),bal (T rows a2),bal (T rows a3)].sum+togF 14 ⟨T rows a0,T rows a1,T rows a2,T rows a3⟩=bal (T rows a0)+bal (T rows a1)+bal (T rows a2)+bal (T rows a3)+togF 14 ⟨T rows a0,T rows a1,T rows a2,T rows a3⟩:=by
       simp only[List.sum_cons,List.sum_nil];lia
      rw[es]
      rfl
  ·rintro σ H2 ⟨s2,jD,⟨kvs2,jJ⟩,v3,rfl⟩;rw[jH] at jD;exact⟨_,rfl,_,rfl,D,_,(x:Int),.int (bal (T rows x)),rfl,rfl,SqL.of jD,qg7 (by rw[Zg,q36 hx];rfl),q H2 s2⟩
end
end Pr
namespace Qf
open Tr
theorem qK3{rows more:List Row}(ok:qb3 (rows++more)):∀(n x:Nat),x<n->x<rows.length+2->T (rows++more) x=T rows x
 |0,_,h,_=>absurd h (XV _)
 |n+1,x,hn,hx=>by
  have ok1:qb3 rows:=λp r h=>ok p r (by rw[Zo (gS_ h).1];exact h);by_cases h2:x<2
  ·match x,h2 with
   |0,_=>rw[qf1,qf1]
   |1,_=>rw[qh7,qh7]
  ·obtain⟨p,a,b,c,d,rfl,hp⟩:=qr6 ok1 hx h2;have hq:(rows++more)[p]?=some [a,b,c,d]:=by rw[Zo (by lia)];exact hp
   have hk:=(ok1 p _ hp).2;have k:∀{y},y∈[a,b,c,d]->T (rows++more) y=T rows y:=λhy=>by
    have:=hk _ hy;exact qK3 ok n _ (by lia) (by lia)
   rw[qi3 ok hq,qi3 ok1 hp,k (by simp),k (by simp),k (by simp),k (by simp)]
theorem qw5{rows:List Row}{r:Row}(ok:qb3 rows)(h:xi0 rows.length r):qb3 (rows++[r]):=λp q e=>by
 by_cases hp:p<rows.length
 ·rw[Zo hp] at e;exact ok p q e
 ·have hl:=(gS_ e).1;rw[Zi] at hl;have:p=rows.length:=by simp at hl;lia
  subst this;rw[Zk (Zf _),Yz] at e;cases e;exact h
def arT(t:Tr):Tr:=.nd (.nd .o .o .o (neg t)) .o .o .o
def qi1(rows:List Row)(tp:Nat):List Row:=exr rows++[[1,1,1,ex tp],[rows.length+2,1,1,1]]
theorem qo1(rows:List Row)(tp:Nat):qi1 rows tp=(exr rows++[[1,1,1,ex tp]])++[[rows.length+2,1,1,1]]:=by
 unfold qi1;rw[Xx]
 rfl
theorem qq3{rows:List Row}{tp:Nat}(ok:qb3 rows)(h:tp<rows.length+2):qb3 (exr rows++[[1,1,1,ex tp]]):=
 qw5 (xd1 ok) ⟨rfl,λx hx=>by
  have:=qR4 h;rw[qd7];simp only[Zv,ZR,XA] at hx;rcases hx with rfl|rfl|rfl|rfl<;>lia⟩
theorem qw6{rows:List Row}{tp:Nat}(ok:qb3 rows)(h:tp<rows.length+2):qb3 (qi1 rows tp):=by
 rw[qo1];refine qw5 (qq3 ok h) ⟨rfl,λx hx=>?_⟩;rw[Zi,qd7];simp only[Zv,ZR,XA] at hx;rcases hx with rfl|rfl|rfl|rfl<;>simp<;>lia
theorem qq4(rows:List Row)(tp:Nat):(qi1 rows tp).length=rows.length+2:=by
 unfold qi1;rw[Zi,qd7]
 rfl
theorem qO3{rows:List Row}{tp:Nat}(ok:qb3 rows)(h:tp<rows.length+2):T (qi1 rows tp) (rows.length+3)=arT (T rows tp):=by
 have o1:=qq3 ok h;have o2:=qw6 ok h;rw[qo1] at o2 ⊢;have l1:(exr rows++[[1,1,1,ex tp]]).length=rows.length+1:=by rw[Zi,qd7];rfl
 have hx:=qR4 h;have e2:((exr rows++[[1,1,1,ex tp]])++[[rows.length+2,1,1,1]])[rows.length+1]?=some [rows.length+2,1,1,1]:=by
  rw[Zk (by lia),l1,Yz];rfl
 have e1:(exr rows++[[1,1,1,ex tp]])[rows.length]?=some [1,1,1,ex tp]:=by
  rw[Zk (by rw[qd7];exact Zf _),qd7,Yz];rfl
 rw[show rows.length+3=rows.length+1+2 from rfl,qi3 o2 e2,qK3 o2 _ _ (ZL _) (by lia),qi3 o1 e1,qh7,qh7,qK3 o1 _ _ (ZL _) (by rw[qd7];exact hx),xk9 ok _ h]
 rfl
theorem qS2{rows:List Row}{tp n:Nat}(ok:qb3 rows)(h:tp<rows.length+2)(hd:∀x,x<rows.length+2->dep (T rows x)<=n):∀x,x<(qi1 rows tp).length+2->dep (T (qi1 rows tp) x)<=n+2:=λx hx=>by
 have o1:=qq3 ok h;have o2:=qw6 ok h;rw[qq4] at hx;by_cases hl:x<rows.length+2
 ·rw[qo1] at o2 ⊢;rw[qK3 o2 _ _ (ZL _) (by rw[Zi,qd7];simp;lia),qK3 o1 _ _ (ZL _) (by rw[qd7];exact hl)];have:=xk9 ok _ (qR4 hl);rw[xx0] at this;rw[this,ql6];exact ZH (hd _ (qR4 hl)) (by lia)
 ·have hn:dep (neg (T rows tp))<=n:=by rw[ql6];exact hd _ h
  have hi:dep (.nd .o .o .o (neg (T rows tp)))<=n+1:=qG4 (Zx _) (Zx _) (Zx _) hn;by_cases h3:x=rows.length+3
  ·rw[h3,qO3 ok h];exact qG4 hi (Zx _) (Zx _) (Zx _)
  ·have e:x=rows.length+2:=by lia
   subst e;have e1:(exr rows++[[1,1,1,ex tp]])[rows.length]?=some [1,1,1,ex tp]:=by
    rw[Zk (by rw[qd7];exact Zf _),qd7,Yz];rfl
   rw[qo1] at o2 ⊢;rw[qK3 o2 _ _ (ZL _) (by rw[Zi,qd7];simp),qi3 o1 e1,qh7,qK3 o1 _ _ (ZL _) (by rw[qd7];exact qR4 h),xk9 ok _ h];exact ZH hi (Vh _)
theorem qS3{n top:Nat}{rows:List Row}(c:Canon n top rows):∀x,x<rows.length+2->dep (T rows x)<=n:=λx hx=>by
 by_cases h2:x<2
 ·match x,h2 with
  |0,_=>rw[qf1];exact Zx _
  |1,_=>rw[qh7];exact Zx _
 ·have er:=(qy2 c).1;have od:=(post_ord (T rows top) [] ord_nil).1;have all:=qo0 (Pd:=λs=>dep s<=n) (λa b c d h=>by
   cases n with
   |zero=>exact absurd h (by show ¬1+_<=0;lia)
   |succ k=>
    obtain⟨h1,h2,h3,h4⟩:=q22 h;exact⟨by lia,by lia,by lia,by lia⟩) (T rows top) [] (q21 c) (λs hs=>by cases hs)
  generalize post (T rows top) []=L at er od all;have el:rows.length=L.length:=by
   have:=ZQ List.length er;rw[rowsOf_len] at this;exact this
  obtain⟨i,rfl⟩:∃i,x=i+2:=⟨x-2,by lia⟩;have hi:L[i]?=some (L[i]'(by lia)):=Zd (by lia);have hm:=Zy hi;generalize L[i]'(by lia)=t at hi hm;have hT:=qn2 od t (.inr (.inr hm));rw[name_at od hi] at hT;rw[er,hT];exact all t hm
def Rp(h:Nat)(G:Nat->Nat->Int):Int:=2+Rr h G-G 0 0-G (h-1) (h-1)
def rp(w:Nat)(z:Nat->Bool):Int:=Rp w λj l=>bi (z j&&z l)
def gP(h w:Nat)(g:Nat->Nat->Bool):Int:=Rp h λi k=>rp w λj=>g i j&&g k j
theorem qo2{h:Nat}{G F:Nat->Nat->Int}(hh:0<h)(e:∀i k,i<h->k<h->G i k=F i k):Rp h G=Rp h F:=by
 unfold Rp;rw[qk4 e,e 0 0 hh hh,e (h-1) (h-1) (by lia) (by lia)]
theorem qf5{w:Nat}{y z:Nat->Bool}(hw:0<w)(e:∀j,j<w->y j=z j):rp w y=rp w z:=qo2 hw λi k hi hk=>by rw[e i hi,e k hk]
theorem xa7{h w:Nat}{f g:Nat->Nat->Bool}(hh:0<h)(hw:0<w)(e:∀i j,i<h->j<w->f i j=g i j):gP h w f=gP h w g:=qo2 hh λi k hi hk=>qf5 hw λj hj=>by rw[e i j hi hj,e k j hk hj]
theorem xe3{h:Nat}{G F:Nat->Nat->Int}(hh:0<h)(g0:G 0 0=1)(g1:G (h+1) (h+1)=1)(g2:G 0 1=F 0 0)(g3:G h (h+1)=F (h-1) (h-1))(e:∀i k,i<h->k<h->G (1+i) (1+k)=F i k):Rr (h+2) G=Rp h F:=by
 obtain⟨a,rfl⟩:∃a,h=a+1:=⟨h-1,by lia⟩;rw[qq2,show a+1+1=1+(a+1) by lia,qh9 1 G (by decide) (a+1) hh,qG9,qk4 e];rw[show 1+(a+1)=a+1+1 by lia,g1,g3,g0,g2];unfold Rp;lia
def pd(n:Nat)(z:Nat->Bool)(j:Nat):Bool:=if 1<=j/\j<=n then z (j-1) else true
theorem q38{n j:Nat}(z:Nat->Bool)(h:j<n):pd n z (1+j)=z j:=by
 unfold pd;rw[Zm (by lia),show 1+j-1=j by lia]
theorem xl0(n:Nat)(z:Nat->Bool):pd n z 0=true:=Zh (by lia)
theorem xl1(n:Nat)(z:Nat->Bool):pd n z (n+1)=true:=Zh (by lia)
theorem xx8:bi true=1:=rfl
theorem ql7(b:Bool):bi (b&&b)=bi b:=by cases b<;>rfl
theorem xl2{w:Nat}(hw:0<w)(z:Nat->Bool):ru (w+2) (pd w z)=rp w z:=by
 refine xe3 hw ?_ ?_ ?_ ?_ λi k hi hk=>?_
 ·rw[xl0];rfl
 ·rw[xl1];rfl
 ·have:=q38 z hw;rw[xl0,show (1:Nat)=1+0 from rfl,this,Bool.true_and,ql7]
 ·have:=q38 z (show w-1<w by lia);rw[show 1+(w-1)=w by lia] at this;rw[xl1,this,Xa,ql7]
 ·rw[q38 z hi,q38 z hk]
def pad2(h w:Nat)(g:Nat->Nat->Bool)(i j:Nat):Bool:=if 1<=i/\i<=h then pd w (g (i-1)) j else true
theorem xs6(w:Nat)(y z:Nat->Bool)(j:Nat):(pd w y j&&pd w z j)=pd w (λj=>y j&&z j) j:=by
 unfold pd;split<;>rfl
theorem xe4{h w:Nat}(hh:0<h)(hw:0<w)(g:Nat->Nat->Bool):gE (h+2) (w+2) (pad2 h w g)=gP h w g:=by
 have p0:∀j,pad2 h w g 0 j=true:=λj=>Zh (by lia);have p1:∀j,pad2 h w g (h+1) j=true:=λj=>Zh (by lia);have pin:∀{i j},i<h->pad2 h w g (1+i) j=pd w (g i) j:=λ{i j} hi=>by
  unfold pad2;rw[Zm (by lia),show 1+i-1=i by lia]
 have one:(ru (w+2) λ_=>true)=1:=qJ9 (by lia);have self:∀i,(λj=>g i j&&g i j)=g i:=λi=>funext λj=>Y7 _;refine xe3 hh ?_ ?_ ?_ ?_ λi k hi hk=>?_
 ·rw[<- one];exact qd0 λj _=>by rw[p0];rfl
 ·rw[<- one];exact qd0 λj _=>by rw[p1];rfl
 ·show (ru (w+2) λj=>pad2 h w g 0 j&&pad2 h w g 1 j)=rp w λj=>g 0 j&&g 0 j;rw[self,<- xl2 hw];refine qd0 λj _=>?_;have:=pin (j:=j) hh;rw[p0,show (1:Nat)=1+0 from rfl,this,Bool.true_and]
 ·show (ru (w+2) λj=>pad2 h w g h j&&pad2 h w g (h+1) j)=rp w λj=>g (h-1) j&&g (h-1) j;rw[self,<- xl2 hw];refine qd0 λj _=>?_;have:=pin (i:=h-1) (j:=j) (by lia);rw[show 1+(h-1)=h by lia] at this;rw[p1,this,Xa]
 ·show (ru (w+2) λj=>pad2 h w g (1+i) j&&pad2 h w g (1+k) j)=rp w λj=>g i j&&g k j;rw[<- xl2 hw];refine qd0 λj _=>?_;rw[pin hi,pin hk,xs6]
theorem xs7{f:Nat->Nat->Bool}{ρ τ:Nat->Nat}{h w:Nat}(r0:ρ 0=0)(t0:τ 0=0)(hr:∀i,i<h->ρ (i+1)=ρ i\/ρ (i+1)=ρ i+1)(ht:∀i,i<w->τ (i+1)=τ i\/τ (i+1)=τ i+1):gE (h+1) (w+1) (λi j=>f (ρ i) (τ j))=gE (ρ h+1) (τ w+1) f:=by
 unfold gE;rw[q34 (G:=λi k=>ru (w+1) λj=>f i (τ j)&&f k (τ j)) r0 h hr];refine qk4 λi k _ _=>?_;exact q34 (G:=λj l=>bi ((f i j&&f k j)&&(f i l&&f k l))) t0 w ht
theorem qO4:∀(m:Nat)(t:Tr)(i j:Nat),dep t<=m->cellT m (neg t) i j=!cellT m t i j
 |0,t,i,j,h=>by rcases qG7 h with rfl|rfl<;>rfl
 |m+1,t,i,j,h=>by
  show cellT m (qr _ (neg t)) i j=!cellT m (qr _ t) i j;have hk:2*(i/2^m%2)+j/2^m%2<4:=by lia
  generalize 2*(i/2^m%2)+j/2^m%2=k at hk;rw[<- qO4 m (qr k t) i j (qw4 hk h)];congr 1;cases t with
  |z|o=>rfl
  |nd a b c d=>
   match k,hk with
   |0,_|1,_|2,_|3,_=>rfl
theorem xl3{m:Nat}{t:Tr}(h:dep t<=m):bal (arT t)=gP (2^m) (2^m) λi j=>!cellT m t i j:=by
 have hp:=qc0 m;have hu:dep (neg t)<=m:=by rw[ql6];exact h
 have h1:dep (.nd .o .o .o (neg t))<=m+1:=qG4 (Zx _) (Zx _) (Zx _) hu;have h2:dep (arT t)<=m+1+1:=qG4 h1 (Zx _) (Zx _) (Zx _);have e2:=qe7 (m+1);have e1:=qe7 m
 let ρ:Nat->Nat:=λi=>if i<2^m then 0 else if i<2^m+2^m then i-2^m+1 else 2^m+1
 have st:∀i,ρ (i+1)=ρ i\/ρ (i+1)=ρ i+1:=λi=>by
  show (if i+1<2^m then 0 else if i+1<2^m+2^m then i+1-2^m+1 else 2^m+1)=(if i<2^m then 0 else if i<2^m+2^m then i-2^m+1 else 2^m+1)\/(if i+1<2^m then 0 else if i+1<2^m+2^m then i+1-2^m+1 else 2^m+1)=(if i<2^m then 0 else if i<2^m+2^m then i-2^m+1 else 2^m+1)+1;by_cases c1:i<2^m<;>by_cases c2:i<2^m+2^m<;>by_cases c3:i+1<2^m<;>by_cases c4:i+1<2^m+2^m<;>simp only[c1,c2,c3,c4,Yt,ZP,true_or,or_true]<;>lia
 rw[qy6 (m+1+1) _ h2,<- xe4 hp hp];obtain⟨M,hM⟩:∃M,2^(m+1+1)=M+1:=⟨2^(m+1+1)-1,by lia⟩;have hl:ρ M+1=2^m+2:=by
  show (if _ then _ else if _ then _ else _)+1=_;rw[Zh (by lia),Zh (by lia)]
 rw[<- hl,hM,<- xs7 (show ρ 0=0 from Zm hp) (show ρ 0=0 from Zm hp) (λi _=>st i) (λi _=>st i)];refine qe0 λi j hi hj=>?_;by_cases jW:i<2^(m+1)
 ·by_cases jK:j<2^(m+1)
  ·rw[qj3 _ jW jK];show cellT (m+1) (.nd .o .o .o (neg t)) i j=_;by_cases hi1:i<2^m
   ·have e:ρ i=0:=Zm hi1;rw[e];show _=true;by_cases hj1:j<2^m
    ·rw[qj3 _ hi1 hj1];exact qg8 _ _ _
    ·have:=qj4 (.nd .o .o .o (neg t)) hi1 (show j-2^m<2^m by lia);rw[show 2^m+(j-2^m)=j by lia] at this;rw[this];exact qg8 _ _ _
   ·have e:ρ i=i-2^m+1:=by show (if _ then _ else if _ then _ else _)=_;rw[Zh hi1,Zm (by lia)]
    have ei:2^m+(i-2^m)=i:=by lia
    rw[e];unfold pad2;rw[Zm (by lia)];by_cases hj1:j<2^m
    ·have ej:ρ j=0:=Zm hj1;rw[ej,xl0];have:=qj5 (.nd .o .o .o (neg t)) (show i-2^m<2^m by lia) hj1;rw[ei] at this;rw[this];exact qg8 _ _ _
    ·have ej:ρ j=1+(j-2^m):=by show (if _ then _ else if _ then _ else _)=_;rw[Zh hj1,Zm (by lia)];lia
     rw[ej,q38 _ (by lia)];have:=qj6 (.nd .o .o .o (neg t)) (show i-2^m<2^m by lia) (show j-2^m<2^m by lia);rw[ei,show 2^m+(j-2^m)=j by lia] at this;rw[this];show cellT m (neg t) _ _=_;rw[qO4 m t _ _ h,show i-2^m+1-1=i-2^m by lia]
  ·have ej:ρ j=2^m+1:=by show (if _ then _ else if _ then _ else _)=_;rw[Zh (by lia),Zh (by lia)]
   have:=qj4 (arT t) jW (show j-2^(m+1)<2^(m+1) by lia);rw[show 2^(m+1)+(j-2^(m+1))=j by lia] at this;rw[this,ej];show cellT (m+1) .o _ _=_;rw[qg8];unfold pad2;split
   ·rw[xl1]
   ·rfl
 ·have ei:ρ i=2^m+1:=by show (if _ then _ else if _ then _ else _)=_;rw[Zh (by lia),Zh (by lia)]
  rw[ei];have hr:pad2 (2^m) (2^m) (λi j=>!cellT m t i j) (2^m+1) (ρ j)=true:=Zh (by lia);rw[hr];have e3:2^(m+1)+(i-2^(m+1))=i:=by lia
  by_cases jK:j<2^(m+1)
  ·have:=qj5 (arT t) (show i-2^(m+1)<2^(m+1) by lia) jK;rw[e3] at this;rw[this];exact qg8 _ _ _
  ·have:=qj6 (arT t) (show i-2^(m+1)<2^(m+1) by lia) (show j-2^(m+1)<2^(m+1) by lia);rw[e3,show 2^(m+1)+(j-2^(m+1))=j by lia] at this;rw[this];exact qg8 _ _ _
def qh2(sd:Bool)(h w:Nat)(f:Nat->Nat->Bool):Int:=if sd then gE h w f else 1-gP h w λi j=>!f i j
theorem qw7{sd:Bool}{h w:Nat}{f g:Nat->Nat->Bool}(hh:0<h)(hw:0<w)(e:∀i j,i<h->j<w->f i j=g i j):qh2 sd h w f=qh2 sd h w g:=by
 unfold qh2;rw[qe0 e,xa7 hh hw λi j hi hj=>by rw[e i j hi hj]]
end Qf
namespace Qf
def gs(h w:Nat)(φ:Nat->Nat->Int):Int:=sm h λi=>sm w (φ i)
theorem qs7{h w:Nat}{φ ψ:Nat->Nat->Int}(e:∀i j,i<h->j<w->φ i j=ψ i j):gs h w φ=gs h w ψ:=qe3 λi hi=>qe3 λj hj=>e i j hi hj
theorem q39{φ ψ χ:Nat->Nat->Int}{a b:Int}(e:∀i j,χ i j=a*φ i j+b*ψ i j)(h w:Nat):gs h w χ=a*gs h w φ+b*gs h w ψ:=qk9 (λi=>qk9 (e i) w) h
theorem xl4(h w:Nat):gs h w (λ_ _=>0)=0:=by
 unfold gs;rw[qe3 (g:=λ_=>0) λi _=>by rw[qe4];lia,qe4];lia
theorem xa8(c:Int)(h w:Nat):gs h w (λ_ _=>c)=h*(w*c):=by
 unfold gs;rw[qe3 (g:=λ_=>w*c) λi _=>qe4 c w,qe4]
theorem q40(a:Nat)(v:Nat->Int):∀n,sm n (λi=>if i=a then v i else 0)=if a<n then v a else 0
 |0=>by rw[Zh (by lia)];rfl
 |n+1=>by
  show sm n _+(if n=a then v n else 0)=_;rw[q40 a v n];by_cases h:n=a
  ·subst h;rw[Zm rfl,Zh (by lia),Zm (by lia)];lia
  ·rw[Zh h];by_cases h2:a<n
   ·rw[Zm h2,Zm (by lia)];lia
   ·rw[Zh h2,Zh (by lia)];lia
theorem xs8{h w:Nat}(a b:Nat)(ha:a<h)(hb:b<w)(v:Nat->Nat->Int):gs h w (λi j=>if i=a/\j=b then v i j else 0)=v a b:=by
 unfold gs;rw[qe3 (g:=λi=>if i=a then v i b else 0) λi _=>?_,q40 a (λi=>v i b),Zm ha];by_cases e:i=a
 ·rw[Zm e,qe3 (g:=λj=>if j=b then v i j else 0) λj _=>?_,q40 b (v i),Zm hb];by_cases e2:j=b
  ·dsimp only;rw[Zm e2,Zm ⟨e,e2⟩]
  ·dsimp only;rw[Zh e2,Zh λz=>e2 z.2]
 ·rw[Zh e,qe3 (g:=λ_=>0) λj _=>Zh λz=>e z.1,qe4];lia
theorem qK4{h w:Nat}(v:Nat->Nat->Int):∀(S:List (Nat×Nat)),S.Nodup->(∀x∈S,x.1<h/\x.2<w)->(S.map λx=>v x.1 x.2).sum=gs h w λi j=>if (i,j)∈S then v i j else 0
 |[],_,_=>by
  rw[qs7 (ψ:=λ_ _=>0) λi j _ _=>Zh (by simp),xl4];rfl
 |x::S,nd,hb=>by
  obtain⟨hx,nd⟩:=Z9.mp nd;rw[Zz,List.sum_cons,qK4 v S nd λy hy=>hb y (Zn _ hy)];obtain⟨h1,h2⟩:=hb x Zu;rw[q39 (χ:=λi j=>if (i,j)∈x::S then v i j else 0) (φ:=λi j=>if i=x.1/\j=x.2 then v i j else 0) (ψ:=λi j=>if (i,j)∈S then v i j else 0) (a:=1) (b:=1) (λi j=>?_) h w,xs8 _ _ h1 h2]
  ·lia
  ·by_cases e:i=x.1/\j=x.2
   ·have ex:(i,j)=x:=YJ e.1 e.2;rw[Zm e,Zm (by rw[ex];exact Zu),Zh (by rw[ex];exact hx)];lia
   ·rw[Zh e];have ne:(i,j)≠x:=λz=>e ⟨ZQ Prod.fst z,ZQ Prod.snd z⟩;by_cases m:(i,j)∈S
    ·rw[Zm m,Zm (Zn _ m)];lia
    ·rw[Zh m,Zh (λz=>(Zv.mp z).elim ne m)];lia
theorem xe5{h w:Nat}{S:List (Nat×Nat)}(nd:S.Nodup)(hb:∀x∈S,x.1<h/\x.2<w):(S.length:Int)=gs h w λi j=>bi (decide ((i,j)∈S)):=by
 have e:=qK4 (λ_ _=>1) S nd hb;rw[qs7 (ψ:=λi j=>bi (decide ((i,j)∈S))) λi j _ _=>by unfold bi;simp] at e;rw[<- e];clear e nd hb
 induction S with
 |nil=>rfl
 |cons x S ih=>rw[ZK,Zz,List.sum_cons];lia
def qB6(S:List (Nat×Nat)):Int:=S.length+(S.map λx=>- bi (decide ((x.1,x.2+1)∈S))-bi (decide ((x.1+1,x.2)∈S))+bi (decide ((x.1,x.2+1)∈S))*bi (decide ((x.1+1,x.2)∈S))*bi (decide ((x.1+1,x.2+1)∈S))).sum
theorem xe6{w:Nat}{z:Nat->Bool}(hw:0<w)(h:z w=false):ru w z=sm w λj=>bi (z j)-bi (z j&&z (j+1)):=by
 obtain⟨a,rfl⟩:∃a,w=a+1:=⟨w-1,by lia⟩;unfold ru Rr;have e:sm (a+1) (λj=>bi (z j&&z (j+1)))=sm a λj=>bi (z j&&z (j+1)):=by
  show sm a _+bi (z a&&z (a+1))=_;rw[h,Yh];show _+0=_;lia
 rw[qk9 (h:=λj=>bi (z j)-bi (z j&&z (j+1))) (f:=λj=>bi (z j&&z j)) (g:=λj=>bi (z j&&z (j+1))) (a:=1) (b:=-1) (λj=>by rw[ql7];lia) (a+1),e,X7];dsimp only;lia
theorem xs9{h w:Nat}{f:Nat->Nat->Bool}(hh:0<h)(hw:0<w)(h0:∀j,f h j=false)(h1:∀i,f i w=false):gE h w f=gs h w λi j=>bi (f i j)-bi (f i j&&f i (j+1))-(bi (f i j&&f (i+1) j)-bi ((f i j&&f (i+1) j)&&(f i (j+1)&&f (i+1) (j+1)))):=by
 obtain⟨a,rfl⟩:∃a,h=a+1:=⟨h-1,by lia⟩;unfold gE Rr gs;have e:(sm (a+1) λi=>ru w λj=>f i j&&f (i+1) j)=sm a λi=>ru w λj=>f i j&&f (i+1) j:=by
  show sm a _+(ru w λj=>f a j&&f (a+1) j)=_;rw[qd0 (z:=λ_=>false) λj _=>by rw[h0,Yh],qn8];lia
 rw[X7,<- e];rw[qk9 (h:=λi=>sm w λj=>bi (f i j)-bi (f i j&&f i (j+1))-(bi (f i j&&f (i+1) j)-bi ((f i j&&f (i+1) j)&&(f i (j+1)&&f (i+1) (j+1))))) (f:=λi=>ru w λj=>f i j&&f i j) (g:=λi=>ru w λj=>f i j&&f (i+1) j) (a:=1) (b:=-1) (λi=>?_) (a+1)]
 ·dsimp only;lia
 ·rw[qd0 (y:=λj=>f i j&&f i j) (z:=f i) λj _=>Y7 _,xe6 hw (h1 i),xe6 hw (show (f i w&&f (i+1) w)=false by rw[h1,Wd])];exact qk9 (λj=>by lia) w
theorem qS4{h w:Nat}{S:List (Nat×Nat)}(hh:0<h)(hw:0<w)(nd:S.Nodup)(hb:∀x∈S,x.1<h/\x.2<w):qB6 S=gE h w λi j=>decide ((i,j)∈S):=by
 rw[xs9 hh hw (λj=>Zp λz=>by have:=(hb _ z).1;lia) λi=>Zp λz=>by have:=(hb _ z).2;lia];unfold qB6;rw[xe5 nd hb,qK4 (λi j=>- bi (decide ((i,j+1)∈S))-bi (decide ((i+1,j)∈S))+bi (decide ((i,j+1)∈S))*bi (decide ((i+1,j)∈S))*bi (decide ((i+1,j+1)∈S))) S nd hb];rw[<- Vj (gs h w λi j=>bi (decide ((i,j)∈S))),<- Vj (gs h w λi j=>if (i,j)∈S then _ else 0)];refine (q39 (λi j=>?_) h w).symm;by_cases m:(i,j)∈S
 ·rw[Zm m,Zq m];cases decide ((i,j+1)∈S)<;>cases decide ((i+1,j)∈S)<;>cases decide ((i+1,j+1)∈S)<;>rfl
 ·rw[Zh m,Zp m];cases decide ((i,j+1)∈S)<;>cases decide ((i+1,j)∈S)<;>cases decide ((i+1,j+1)∈S)<;>rfl
end Qf
namespace Qf
theorem xx9(h w:Nat)(f:Nat->Nat->Bool):gE h w f=gs h w (λi j=>bi (f i j))-gs h (w-1) (λi j=>bi (f i j&&f i (j+1)))-(gs (h-1) w (λi j=>bi (f i j&&f (i+1) j))-gs (h-1) (w-1) (λi j=>bi ((f i j&&f (i+1) j)&&(f i (j+1)&&f (i+1) (j+1))))):=by
 unfold gE Rr gs;have e1:(sm h λi=>ru w λj=>f i j&&f i j)=sm h (λi=>sm w λj=>bi (f i j))-sm h λi=>sm (w-1) λj=>bi (f i j&&f i (j+1)):=by
  rw[qk9 (h:=λi=>ru w λj=>f i j&&f i j) (f:=λi=>sm w λj=>bi (f i j)) (g:=λi=>sm (w-1) λj=>bi (f i j&&f i (j+1))) (a:=1) (b:=-1) (λi=>?_) h]
  ·lia
  ·rw[qd0 (y:=λj=>f i j&&f i j) (z:=f i) λj _=>Y7 _];unfold ru Rr;rw[qe3 (f:=λj=>bi (f i j&&f i j)) (g:=λj=>bi (f i j)) λj _=>ql7 _];dsimp only;lia
 have e2:(sm (h-1) λi=>ru w λj=>f i j&&f (i+1) j)=sm (h-1) (λi=>sm w λj=>bi (f i j&&f (i+1) j))-sm (h-1) λi=>sm (w-1) λj=>bi ((f i j&&f (i+1) j)&&(f i (j+1)&&f (i+1) (j+1))):=by
  rw[qk9 (h:=λi=>ru w λj=>f i j&&f (i+1) j) (f:=λi=>sm w λj=>bi (f i j&&f (i+1) j)) (g:=λi=>sm (w-1) λj=>bi ((f i j&&f (i+1) j)&&(f i (j+1)&&f (i+1) (j+1)))) (a:=1) (b:=-1) (λi=>?_) (h-1)]
  ·lia
  ·unfold ru Rr;rw[qe3 (f:=λj=>bi ((f i j&&f (i+1) j)&&(f i j&&f (i+1) j))) (g:=λj=>bi (f i j&&f (i+1) j)) λj _=>ql7 _];dsimp only;lia
 dsimp only;rw[e1,e2]
theorem qO5{h w:Nat}{a b:Nat->Nat->Bool}(e:∀i j,i<h->j<w->a i j=!b i j):gs h w (λi j=>bi (a i j))=h*(w*1)-gs h w λi j=>bi (b i j):=by
 rw[qs7 (ψ:=λi j=>1-bi (b i j)) λi j hi hj=>by rw[e i j hi hj];cases b i j<;>rfl];rw[q39 (χ:=λi j=>1-bi (b i j)) (φ:=λ_ _=>1) (ψ:=λi j=>bi (b i j)) (a:=1) (b:=-1) (λi j=>by lia),xa8];lia
theorem q41{α β:Type}{g:α->β}(inj:∀a b,g a=g b->a=b){l:List α}(h:l.Nodup):(l.map g).Nodup:=by
 rw[ZU,W5];exact (ZU.mp h).imp λn e=>n (inj _ _ e)
theorem qs8{h w:Nat}{S:List (Nat×Nat)}{q:Nat->Nat->Bool}(nd:S.Nodup)(hb:∀x∈S,x.1<h/\x.2<w)(e:∀i j,q i j=true<->(i,j)∈S):gs h w (λi j=>bi (q i j))=S.length:=by
 rw[xe5 nd hb];exact qs7 λi j _ _=>by rw[show q i j=decide ((i,j)∈S) by rw[ZO,e,Z4]]
def up1(x:Nat×Nat):Nat×Nat:=(x.1+1,x.2+1)
def upR(x:Nat×Nat):Nat×Nat:=(x.1+1,x.2)
def upC(x:Nat×Nat):Nat×Nat:=(x.1,x.2+1)
theorem qS5{h w:Nat}{S C L U:List (Nat×Nat)}(hh:0<h)(hw:0<w)(nd:S.Nodup)(nC:C.Nodup)(nL:L.Nodup)(nU:U.Nodup)(hb:∀x∈S,x.1<h/\x.2<w)
  (hC:∀i j,(i,j)∈C<->∃x∈S,(i=x.1\/i=x.1+1)/\(j=x.2\/j=x.2+1)) (hL:∀i j,(i,j)∈L<->∃x∈S,(i=x.1\/i=x.1+1)/\j=x.2) (hU:∀i j,(i,j)∈U<->∃x∈S,i=x.1/\(j=x.2\/j=x.2+1)) :
  (C.length:Int)-(L.length+U.length)+S.length=1-gP h w λi j=>!decide ((i,j)∈S):=by
 let q:Nat->Nat->Bool:=λi j=>decide ((i,j)∈S.map up1)
 have hq:∀i j,q i j=true<->∃x∈S,i=x.1+1/\j=x.2+1:=λi j=>by
  rw[Z4,ZF];constructor
  ·rintro⟨x,hx,e⟩;exact⟨x,hx,(ZQ Prod.fst e).symm,(ZQ Prod.snd e).symm⟩
  ·rintro⟨x,hx,e1,e2⟩;exact⟨x,hx,YJ e1.symm e2.symm⟩
 have hp:∀i j,i<h+2->j<w+2->pad2 h w (λi j=>!decide ((i,j)∈S)) i j=!q i j:=λi j hi hj=>by
  unfold pad2 pd;by_cases c:(1<=i/\i<=h)/\(1<=j/\j<=w)
  ·rw[Zm c.1,Zm c.2];show (!decide ((i-1,j-1)∈S))=!q i j;congr 1;rw[ZO,Z4,hq];constructor
   ·exact λz=>⟨_,z,by show i=i-1+1;lia,by show j=j-1+1;lia⟩
   ·rintro⟨x,hx,e1,e2⟩;have:(i-1,j-1)=x:=YJ (by show i-1=x.1;lia) (by show j-1=x.2;lia);rw[this];exact hx
  ·have hf:q i j=false:=by
    rw[<- Bool.not_eq_true,hq];rintro⟨x,hx,e1,e2⟩;have:=hb x hx;exact c ⟨⟨by lia,by lia⟩,by lia,by lia⟩
   rw[hf];split
   ·rw[Zh λz=>c ⟨by assumption,z⟩];rfl
   ·rfl
 rw[<- xe4 hh hw,qe0 hp,xx9];have n2:∀{g:Nat×Nat->Nat×Nat}{M:List (Nat×Nat)},(∀a b,g a=g b->a=b)->M.Nodup->(M.map g).Nodup:=λa b=>q41 a b;have up1i:∀a b,up1 a=up1 b->a=b:=λa b e=>by
  have e1:=ZQ Prod.fst e;have e2:=ZQ Prod.snd e;exact YJ (XD e1) (XD e2)
 have upRi:∀a b,upR a=upR b->a=b:=λa b e=>by
  have e1:=ZQ Prod.fst e;have e2:=ZQ Prod.snd e;exact YJ (XD e1) e2
 have upCi:∀a b,upC a=upC b->a=b:=λa b e=>by
  have e1:=ZQ Prod.fst e;have e2:=ZQ Prod.snd e;exact YJ e1 (XD e2)
 have mR:∀{M:List (Nat×Nat)}{i j},(i,j)∈M.map upR<->1<=i/\(i-1,j)∈M:=λ{M i j}=>by
  rw[ZF];constructor
  ·rintro⟨x,hx,e⟩;have e1:=ZQ Prod.fst e;have e2:=ZQ Prod.snd e;have e1:x.1+1=i:=e1;have e2:x.2=j:=e2;refine⟨by lia,?_⟩;rw[show (i-1,j)=x from YJ (by show i-1=x.1;lia) e2.symm];exact hx
  ·rintro⟨h1,h2⟩;exact⟨_,h2,YJ (by show i-1+1=i;lia) rfl⟩
 have mC:∀{M:List (Nat×Nat)}{i j},(i,j)∈M.map upC<->1<=j/\(i,j-1)∈M:=λ{M i j}=>by
  rw[ZF];constructor
  ·rintro⟨x,hx,e⟩;have e1:=ZQ Prod.fst e;have e2:=ZQ Prod.snd e;have e1:x.1=i:=e1;have e2:x.2+1=j:=e2;refine⟨by lia,?_⟩;rw[show (i,j-1)=x from YJ e1.symm (by show j-1=x.2;lia)];exact hx
  ·rintro⟨h1,h2⟩;exact⟨_,h2,YJ rfl (by show j-1+1=j;lia)⟩
 have c0:gs (h+2) (w+2) (λi j=>bi (q i j))=S.length:=by
  have:=qs8 (q:=q) (h:=h+2) (w:=w+2) (n2 up1i nd) (λx hx=>by
   obtain⟨y,hy,rfl⟩:=ZF.mp hx;have:=hb y hy;exact⟨by show y.1+1<_;lia,by show y.2+1<_;lia⟩) λi j=>Z4
  rwa [Ze] at this
 have c1:gs (h+2) (w+1) (λi j=>bi (q i j||q i (j+1)))=U.length:=by
  have:=qs8 (S:=U.map upR) (q:=λi j=>q i j||q i (j+1)) (h:=h+2) (w:=w+1) (n2 upRi nU) (λx hx=>by
   obtain⟨y,hy,rfl⟩:=ZF.mp hx;obtain⟨z,hz,h1,h2⟩:=(hU y.1 y.2).mp hy;have:=hb z hz;exact⟨by show y.1+1<_;lia,by show y.2<_;lia⟩) λi j=>by
    rw[YI,hq,hq,mR,hU];constructor
    ·rintro (⟨x,hx,h1,h2⟩|⟨x,hx,h1,h2⟩)
     ·exact⟨by lia,x,hx,by lia,by lia⟩
     ·exact⟨by lia,x,hx,by lia,by lia⟩
    ·rintro⟨h0,x,hx,h1,h2|h2⟩
     ·exact .inr ⟨x,hx,by lia,by lia⟩
     ·exact .inl ⟨x,hx,by lia,by lia⟩
  rwa [Ze] at this
 have c2:gs (h+1) (w+2) (λi j=>bi (q i j||q (i+1) j))=L.length:=by
  have:=qs8 (S:=L.map upC) (q:=λi j=>q i j||q (i+1) j) (h:=h+1) (w:=w+2) (n2 upCi nL) (λx hx=>by
   obtain⟨y,hy,rfl⟩:=ZF.mp hx;obtain⟨z,hz,h1,h2⟩:=(hL y.1 y.2).mp hy;have:=hb z hz;exact⟨by show y.1<_;lia,by show y.2+1<_;lia⟩) λi j=>by
    rw[YI,hq,hq,mC,hL];constructor
    ·rintro (⟨x,hx,h1,h2⟩|⟨x,hx,h1,h2⟩)
     ·exact⟨by lia,x,hx,by lia,by lia⟩
     ·exact⟨by lia,x,hx,by lia,by lia⟩
    ·rintro⟨h0,x,hx,h1|h1,h2⟩
     ·exact .inr ⟨x,hx,by lia,by lia⟩
     ·exact .inl ⟨x,hx,by lia,by lia⟩
  rwa [Ze] at this
 have c3:gs (h+1) (w+1) (λi j=>bi ((q i j||q (i+1) j)||(q i (j+1)||q (i+1) (j+1))))=C.length:=by
  refine qs8 (S:=C) (q:=λi j=>(q i j||q (i+1) j)||(q i (j+1)||q (i+1) (j+1))) (h:=h+1) (w:=w+1) nC (λy hy=>?_) λi j=>?_
  ·obtain⟨z,hz,h1,h2⟩:=(hC y.1 y.2).mp hy;have:=hb z hz;exact⟨by lia,by lia⟩
  ·rw[YI,YI,YI,hq,hq,hq,hq,hC];constructor
   ·rintro ((⟨x,hx,h1,h2⟩|⟨x,hx,h1,h2⟩)|(⟨x,hx,h1,h2⟩|⟨x,hx,h1,h2⟩))<;>exact⟨x,hx,by lia,by lia⟩
   ·rintro⟨x,hx,h1|h1,h2|h2⟩
    ·exact .inr (.inr ⟨x,hx,by lia,by lia⟩)
    ·exact .inl (.inr ⟨x,hx,by lia,by lia⟩)
    ·exact .inr (.inl ⟨x,hx,by lia,by lia⟩)
    ·exact .inl (.inl ⟨x,hx,by lia,by lia⟩)
 rw[show h+2-1=h+1 from rfl,show w+2-1=w+1 from rfl];have d0:=qO5 (h:=h+2) (w:=w+2) (a:=λi j=>!q i j) (b:=q) λi j _ _=>rfl;have d1:=qO5 (h:=h+2) (w:=w+1) (a:=λi j=>!q i j&&!q i (j+1)) (b:=λi j=>q i j||q i (j+1)) λi j _ _=>by rw[W6]
 have d2:=qO5 (h:=h+1) (w:=w+2) (a:=λi j=>!q i j&&!q (i+1) j) (b:=λi j=>q i j||q (i+1) j) λi j _ _=>by rw[W6]
 have d3:=qO5 (h:=h+1) (w:=w+1) (a:=λi j=>(!q i j&&!q (i+1) j)&&(!q i (j+1)&&!q (i+1) (j+1))) (b:=λi j=>(q i j||q (i+1) j)||(q i (j+1)||q (i+1) (j+1))) λi j _ _=>by rw[W6,W6,W6]
 rw[c0] at d0;rw[c1] at d1;rw[c2] at d2;rw[c3] at d3;rw[d0,d1,d2,d3];push_cast
 grind
end Qf
namespace L2
open PySem PySem.Spec PyProof.Rows PySem.W
theorem qH0{d:Addr}{kvs:List (List Key×V)}{o:Obj}{g:TG}{tb:TS}{D:Ends}{σ:St}{H:Hp}(Pv:Nat->St->Hp->Prop)(hk:∀i σ H2,Pv i σ H2->H2 d=some (.frz o (.dT kvs)))(h0:Pv 0 σ H)
  (hs:∀i b kv σ H,kvs[i]?=some kv->H b=some (.tup (kv.1.map kV))->Pv i σ H->g (.ref b) σ H λσ2 H2=>tb { D with nx:=Pv (i+1),ct:=Pv (i+1),bk:=D.nx } σ2 H2) (hd:∀σ H,Pv kvs.length σ H->D.nx σ H) :
  ∃W:Nat->Nat->St->Hp->Prop,(∃m,W 0 m σ H)/\∀i m σ H,W i m σ H ->
   ((ItkT d kvs o).stop i H/\D.nx σ H)\/((ItkT d kvs o).go i H/\∃N:St->Hp->Prop,(∀σ' H',N σ' H'->∃m',m'<m/\W (i+1) m' σ' H')/\∀x H',(ItkT d kvs o).yld i H x H'->g x σ H' λσ2 H2=>tb { D with nx:=N,ct:=N,bk:=D.nx } σ2 H2):=by
 refine⟨λi m σ H=>m=kvs.length-i/\i<=kvs.length/\Pv i σ H,⟨kvs.length,by simp,Zx _,h0⟩,?_⟩;rintro i m σ H ⟨rfl,hi,p⟩;have hq:=hk i σ H p;by_cases j5:i<kvs.length
 ·refine .inr ⟨⟨hq,j5⟩,Pv (i+1),λσ' H' p'=>⟨kvs.length-(i+1),by lia,rfl,j5,p'⟩,λx H' y=>?_⟩;obtain⟨e0,b,kv,e1,e2,e3⟩:=y;subst e0 e2;exact hs i b kv σ _ e1 e3 p
 ·have e:i=kvs.length:=by lia
  subst e;exact .inl ⟨⟨hq,rfl⟩,hd σ H p⟩
section
variable{X:Cx}
theorem qk5:qg4 X (.builtin "len") (λxs H Q=>∃d kvs,xs=[V.ref d]/\Rd H d (.dT kvs)/\Q (.int kvs.length) H):=by
 intro j1 s σ H xs us Q I r h;obtain⟨d,kvs,rfl,hd,q⟩:=h;obtain⟨u,rfl,ru⟩:=qi2 r;cases ru;obtain⟨z,lo,ys,rel,o,tab,ep,ho,hx,j9,ent,uni⟩:=(show ObjOk X.prog X.w H s.heap d (.dT kvs) from xg8 I.hok hd);have hl:tab.size=kvs.length:=(XX ent).trans (YN rel).symm;have fit:(tab.size:Int)<2^63:=by rw[hl];rw[YZ] at z;lia
 refine qN4 lo ⟨o,ho,hx,j9⟩ fit ⟨.int kvs.length,H,I.tok _,?_,q⟩;rw[hl];exact⟨_,rfl⟩
end
def dD{α:Type}(κ:α->List Key)(C:List α):List (List Key×V):=C.map λx=>(κ x,.bl true)
def insC{α:Type}[DecidableEq α](x:α)(C:List α):List α:=if x∈C then C else C++[x]
section
variable{α:Type}[DecidableEq α]{κ:α->List Key}
theorem xe7(inj:∀a b,κ a=κ b->a=b)(C:List α)(x:α)[Decidable (x∈C)]:(dD κ C).any (λkv=>decide (kv.1=κ x))=decide (x∈C):=by
 rw[ZO,Z2,Z4];constructor
 ·rintro⟨kv,hm,e⟩;obtain⟨y,hy,rfl⟩:=ZF.mp hm;have:y=x:=inj _ _ (ZG e);rw[<- this];exact hy
 ·exact λh=>⟨(κ x,.bl true),ZF.mpr ⟨x,h,rfl⟩,Zq rfl⟩
theorem xl5(inj:∀a b,κ a=κ b->a=b)(C:List α)(x:α)[Decidable (x∈C)]:(valV (dD κ C) (κ x)).isSome=decide (x∈C):=by
 rw[<- qe2,xe7 inj]
theorem q42(inj:∀a b,κ a=κ b->a=b)(C:List α)(x:α):putK (dD κ C) (κ x) (.bl true)=dD κ (insC x C):=by
 unfold putK insC;rw[xe7 inj];by_cases h:x∈C
 ·rw[Zq h,Zm rfl,Zm h];unfold dD;rw[Y4];refine Ye λy _=>?_;show (if κ y=κ x then (κ y,V.bl true) else (κ y,V.bl true))=_;split<;>rfl
 ·rw[Zp h,Zh (by decide),Zh h];unfold dD;rw[ZE]
  rfl
theorem xl6{x:α}{C:List α}(h:C.Nodup):(insC x C).Nodup:=by
 unfold insC;split
 ·exact h
 ·rename_i hn;exact Xy.mpr ⟨h,by simp,λa ha b hb e=>hn (by rw[X9] at hb;rw[<- hb,<- e];exact ha)⟩
theorem xa9{x y:α}{C:List α}:y∈insC x C<->y∈C\/y=x:=by
 unfold insC;split
 ·rename_i h;exact⟨.inl,λz=>z.elim id λe=>e▸h⟩
 ·rw[Yi,X9]
theorem xb0(x:α)(C:List α):(insC x C).length<=C.length+1:=by
 unfold insC;split
 ·lia
 ·rw[Zi];exact Zf _
theorem qo3(C:List α):(dD κ C).length=C.length:=Ze _
end
end L2
namespace L2
open PySem
def cK(x:Nat×Nat):List Key:=[.inl (x.1:Int),.inl (x.2:Int)]
theorem qH1:∀a b,cK a=cK b->a=b:=λa b e=>by
 obtain⟨e1,e2⟩:=Xb e;obtain⟨e2,_⟩:=Xb e2;have f1:=Xi e1;have f2:=Xi e2;exact YJ (by lia) (by lia)
theorem xb1{H:Hp}{d b:Addr}{S:List (Nat×Nat)}{i j:Nat}(h:Rd H d (.dT (dD cK S)))(hb:H b=some (.tup [.int (i:Nat),.int (j:Nat)])):DGet H d (.ref b) (valV (dD cK S) (cK (i,j))):=.inr ⟨_,cK (i,j),b,h,rfl,hb,rfl⟩
end L2
namespace Qf
def bsG(S:List (Nat×Nat))(x:Nat×Nat):Int:=- bi (decide ((x.1,x.2+1)∈S))-bi (decide ((x.1+1,x.2)∈S))+bi (decide ((x.1,x.2+1)∈S))*bi (decide ((x.1+1,x.2)∈S))*bi (decide ((x.1+1,x.2+1)∈S))
theorem xb2{S:List (Nat×Nat)}{g:Nat×Nat->Int}{i:Nat}{x:Nat×Nat}(h:S[i]?=some x):((S.take (i+1)).map g).sum=((S.take i).map g).sum+g x:=by
 obtain⟨hi,e⟩:=gS_ h;rw[Z7 hi,e,ZE,List.sum_append];simp
end Qf
namespace Pr
open PySem L2 Qf
section
variable{P:Program}{w:World}{K:PySem.W.Frag}{mg:Str->Option Value}{base:Heap}
abbrev nBs:List Str:=["_law_there", "_law_found", "_law_r", "_law_c", "_law_one", "_law_other"]
theorem scBs:FnScope nBs ["_law_there"] (qa5 qs5):=qd4
inductive spBs_(vs:List V)(H:Hp)(Q:VK):Prop
 |mk(d:Addr)(S:List (Nat×Nat))(e0:vs=[.ref d])(e1:H d=some (.dT (dD cK S)))(e2:∀H',But d H H'->Q (.int (qB6 S)) H')
def spBs:Sp:=λvs H Q _=>spBs_ vs H Q
theorem xl7(a b c:Bool):CMul (bi a*bi b) (bi c):=.inl (by cases a<;>cases b<;>exact⟨by decide,by decide⟩)
theorem xt0{a b:Bool}:CMul (bi a) (bi b):=.inl (by cases a<;>exact⟨by decide,by decide⟩)
theorem xy0{f:Addr}{fd:FuncData}(F:Fun K "_law_by_sides" "_law_by_sides" qs5 f fd)(B:Blt mg):FnOk P w K mg base CX0 1 f fd ["_law_there"] spBs:=by
 refine F.ok scBs (λvs H Q E h=>?_) (λcdv A outer s H vs Q E hr h=>?_)
 ·obtain⟨d,S,rfl,_⟩:=h
  rfl
 ·obtain⟨d,S,rfl,hd,q⟩:=h;have un:=hr.units;have hu:_+1<cLine:=ZS (Xe (show 1<=64 by decide) _) un;refine seqE ⟨_,⟨psN 1 scBs.nd (qa8 qk5 (by rfl) B.len ZT (qa0 (pv 0) qa2))⟩,?_⟩;refine seqE ⟨_,⟨qh0 Z0 rfl (qN7 (pv 0)) (qm0 rfl (qb9 (pgN 2 scBs.nd) (qb9 (pgN 3 scBs.nd) qh3)))
   (StB.go (.cons ⟨psN 4 scBs.nd (qc3 qh1 (by rfl) B.int Yg (qa0 (PEb.go ⟨qT6 (qD9 hu (PEb.go ⟨qc1 (qa0 (pv 2) (qa0 (qa6 qb5 (pv 3) qa3) qa2))⟩) (pv 0)) (by first|exact qb6 _|rfl|decide|with_unfolding_all rfl)⟩) qa2))⟩
    (.cons ⟨psN 5 scBs.nd (qc3 qh1 (by rfl) B.int Yg (qa0 (PEb.go ⟨qT6 (qD9 hu (PEb.go ⟨qc1 (qa0 (qa6 qb5 (pv 2) qa3) (qa0 (pv 3) qa2))⟩) (pv 0)) (by first|exact qb6 _|rfl|decide|with_unfolding_all rfl)⟩) qa2))⟩
    (.one ⟨psN 1 scBs.nd (qa6 qb5 (qa6 qc9 (qa6 qc9 (pv 1) (pv 4)) (pv 5)) (PEb.go ⟨qa6 qd6 (PEb.go ⟨qa6 qd6 (pv 4) (pv 5)⟩) (PEb.go ⟨qc3 qh1 (by rfl) B.int Yg (qa0 (PEb.go ⟨qT6 (qD9 hu (PEb.go ⟨qc1 (qa0 (qa6 qb5 (pv 2) qa3) (qa0 (qa6 qb5 (pv 3) qa3) qa2))⟩) (pv 0)) (by first|exact qb6 _|rfl|decide|with_unfolding_all rfl)⟩) qa2)⟩)⟩))⟩))))⟩,?_⟩
  refine qg2 ⟨_,⟨qb1 (pv 1)⟩,?_⟩;refine⟨_,rfl,d,_,rfl,.inl hd,?_⟩;rw[qo3];refine⟨_,rfl,d,_,rfl,hd,λo=>qH0 (λi σ H2=>H2 d=some (.frz o (.dT (dD cK S)))/\But d H H2/\∃v2 v3 v4 v5,σ=[some (.ref d),some (.int ((S.length:Int)+((S.take i).map (bsG S)).sum)),v2,v3,v4,v5]) (λi σ H2 h=>h.1)
   ⟨qa1,λx u e n=>by rw[qa7 n];exact e,none,none,none,none,by rw[show ((S.take 0).map (bsG S)).sum=0 from rfl,Int.add_zero];rfl⟩ ?_ ?_⟩
  ·rintro i b kv σ H2 kT hb ⟨hz,bt,v2,v3,v4,v5,rfl⟩;unfold dD at kT;rw[Zg] at kT;obtain⟨⟨r,c⟩,hx,rfl⟩:=Zl.mp kT
   replace hb:H2 b=some (.tup [.int (r:Nat),.int (c:Nat)]):=hb
   refine⟨b,_,rfl,SqT.of hb,rfl,_,_,rfl,_,_,rfl,rfl,?_⟩;have rd:∀{Hx:Hp},Same H2 Hx->Rd Hx d (.dT (dD cK S)):=λs=>.inr ⟨o,s _ _ hz⟩;have tel:∀{Hx:Hp}{t:Addr}{x y:Int}{i j:Nat},x=(i:Nat)->y=(j:Nat)->Hx t=none->Same H2 Hx->DGet (upd Hx t (.tup [.int x,.int y])) d (.ref t) (valV (dD cK S) (cK (i,j))):=λ{Hx t x y i j} e1 e2 ht s=>by
    subst e1 e2;exact xb1 (rd (s.trans (qb0 ht))) qa1
   refine⟨_,rfl,_,rfl,_,_,rfl,rfl,(by show 2<=sizeLine;decide),λt1 ht1=>⟨_,rfl,d,_,rfl,tel (i:=r) (j:=c+1) rfl (by lia) ht1 (Same.refl _),.inr ⟨_,rfl,?_⟩⟩⟩;rw[xl5 qH1];have s1:Same H2 (upd H2 t1 (.tup [.int (r:Nat),.int ((c:Nat)+1)])):=qb0 ht1;generalize upd H2 t1 (.tup [.int (r:Nat),.int ((c:Nat)+1)])=H3 at s1;refine⟨_,rfl,_,_,rfl,rfl,_,rfl,(by show 2<=sizeLine;decide),λt2 ht2=>⟨_,rfl,d,_,rfl,tel (i:=r+1) (j:=c) (by lia) rfl ht2 s1,.inr ⟨_,rfl,?_⟩⟩⟩;rw[xl5 qH1];have s2:Same H2 (upd H3 t2 (.tup [.int ((r:Nat)+1),.int (c:Nat)])):=s1.trans (qb0 ht2);generalize upd H3 t2 (.tup [.int ((r:Nat)+1),.int (c:Nat)])=H4 at s2;refine⟨_,rfl,_,rfl,_,_,rfl,rfl,_,rfl,_,_,rfl,rfl,_,rfl,_,rfl,_,_,rfl,rfl,xt0,_,rfl,_,_,rfl,rfl,_,rfl,_,_,rfl,rfl,(by show 2<=sizeLine;decide),λt3 ht3=>⟨_,rfl,d,_,rfl,tel (i:=r+1) (j:=c+1) (by lia) (by lia) ht3 s2,.inr ⟨_,rfl,?_⟩⟩⟩;rw[xl5 qH1];have s3:Same H2 (upd H4 t3 (.tup [.int ((r:Nat)+1),.int ((c:Nat)+1)])):=s2.trans (qb0 ht3);refine⟨_,_,rfl,rfl,xl7 (decide ((r,c+1)∈S)) (decide ((r+1,c)∈S)) (decide ((r+1,c+1)∈S)),_,_,rfl,rfl,?_⟩;refine⟨s3 _ _ hz,bt.trans (But.of s3),some (.int (r:Nat)),some (.int (c:Nat)),some (.int (bi (decide ((r,c+1)∈S)))),some (.int (bi (decide ((r+1,c)∈S)))),?_⟩;rw[xb2 hx];have:bsG S (r,c)=- bi (decide ((r,c+1)∈S))-bi (decide ((r+1,c)∈S))+bi (decide ((r,c+1)∈S))*bi (decide ((r+1,c)∈S))*bi (decide ((r+1,c+1)∈S)):=rfl;rw[this];have ei:∀A B C D E':Int,A+(B+(-C-D+E'))=A+B-C-D+E':=λA B C D E'=>by lia
   rw[ei]
   rfl
  ·rintro σ H2 ⟨hz,bt,v2,v3,v4,v5,rfl⟩;rw[qo3,YS] at *;exact⟨_,rfl,q H2 bt⟩
end
end Pr
namespace Qf
open L2
section
variable{α β:Type}[DecidableEq α]
def insL(l C:List α):List α:=l.foldl (λC x=>insC x C) C
theorem qO6{x:α}:∀{l C:List α},x∈insL l C<->x∈C\/x∈l
 |[],C=>by show x∈C<->_;simp
 |y::l,C=>by
  show x∈insL l (insC y C)<->_;rw[qO6,xa9,Zv,or_assoc]
theorem q43:∀{l C:List α},C.Nodup->(insL l C).Nodup
 |[],_,h=>h
 |y::l,C,h=>q43 (l:=l) (xl6 h)
theorem qo4:∀(l C:List α),(insL l C).length<=C.length+l.length
 |[],C=>Zf _
 |y::l,C=>by
  show (insL l (insC y C)).length<=_;have:=qo4 l (insC y C);have:=xb0 y C;rw[ZK];lia
theorem qw8(l:List α)(x:α)(C:List α):insL (l++[x]) C=insC x (insL l C):=by
 unfold insL;rw[Xw]
 rfl
def folS(f:β->List α)(S:List β)(C:List α):List α:=S.foldl (λC y=>insL (f y) C) C
theorem folS_mem{f:β->List α}{x:α}:∀{S:List β}{C:List α},x∈folS f S C<->x∈C\/∃y∈S,x∈f y
 |[],C=>by show x∈C<->_;simp
 |y::S,C=>by
  show x∈folS f S (insL (f y) C)<->_;rw[folS_mem,qO6];constructor
  ·rintro ((h|h)|⟨z,hz,h⟩)
   ·exact .inl h
   ·exact .inr ⟨y,Zu,h⟩
   ·exact .inr ⟨z,Zn _ hz,h⟩
  ·rintro (h|⟨z,hz,h⟩)
   ·exact .inl (.inl h)
   ·rcases Zv.mp hz with rfl|hz
    ·exact .inl (.inr h)
    ·exact .inr ⟨z,hz,h⟩
theorem qB7{f:β->List α}:∀{S:List β}{C:List α},C.Nodup->(folS f S C).Nodup
 |[],_,h=>h
 |y::S,C,h=>qB7 (S:=S) (q43 h)
theorem qs9{f:β->List α}{n:Nat}(hf:∀y,(f y).length=n):∀(S:List β)(C:List α),(folS f S C).length<=C.length+n*S.length
 |[],C=>by show C.length<=_;lia
 |y::S,C=>by
  show (folS f S (insL (f y) C)).length<=_;have h1:=qs9 hf S (insL (f y) C);have h2:=qo4 (f y) C;rw[hf] at h2;rw[ZK,Vc];lia
theorem qH2{f:β->List α}{S:List β}{C:List α}{i:Nat}{y:β}(h:S[i]?=some y):folS f (S.take (i+1)) C=insL (f y) (folS f (S.take i) C):=by
 obtain⟨hi,e⟩:=gS_ h;unfold folS;rw[Z7 hi,e,Xw]
 rfl
end
def cs(y:Nat×Nat):List (Nat×Nat):=(List.range 4).map λj=>(y.1+j/2,y.2+j%2)
def sdL(y:Nat×Nat):List (Bool×Nat×Nat):=[(true,y.1,y.2),(true,y.1+1,y.2),(false,y.1,y.2),(false,y.1,y.2+1)]
def corL(S:List (Nat×Nat)):List (Nat×Nat):=folS cs S []
def sidL(S:List (Nat×Nat)):List (Bool×Nat×Nat):=folS sdL S []
def qo5(S:List (Nat×Nat)):Int:=((corL S).length:Int)-(sidL S).length+S.length
theorem qO7{α:Type}(p:α->Bool):∀l:List α,(l.filter p).length+(l.filter λx=>!p x).length=l.length
 |[]=>rfl
 |x::l=>by
  have ih:=qO7 p l;rw[Yw,Yw];cases p x<;>simp<;>lia
theorem qH3{h w:Nat}{S:List (Nat×Nat)}(hh:0<h)(hw:0<w)(nd:S.Nodup)(hb:∀x∈S,x.1<h/\x.2<w):qo5 S=1-gP h w λi j=>!decide ((i,j)∈S):=by
 have nM:(sidL S).Nodup:=qB7 YT;have part:=qO7 (λx:Bool×Nat×Nat=>x.1) (sidL S);have nf:∀b:Bool,(((sidL S).filter λx=>x.1==b).map (·.2)).Nodup:=λb=>by
  rw[ZU,W5];refine (Wk.mpr λ{x y} hs e=>?_);have h1:=List.Pairwise.sublist (List.filter_sublist (p:=λx:Bool×Nat×Nat=>x.1==b)) (ZU.mp nM);have jL:=(Wk.mp h1) hs;have mx:=hs.subset (Zu (a:=x) (l:=[y]));have my:=hs.subset (Zn x (Zu (a:=y) (l:=[])));have bx:=(Yr.mp mx).2;have by':=(Yr.mp my).2
  exact jL (YJ ((by simpa using bx:x.1=b).trans (by simpa using by':y.1=b).symm) e)
 have mf:∀(b:Bool)(i j:Nat),(i,j)∈((sidL S).filter λx=>x.1==b).map (·.2)<->∃y∈S,(b,i,j)∈sdL y:=λb i j=>by
  rw[ZF];constructor
  ·rintro⟨⟨b',x⟩,hx,e⟩;obtain⟨h1,h2⟩:=Yr.mp hx;have e:x=(i,j):=e;subst e;have:b'=b:=by simpa using h2
   subst this;exact (folS_mem.mp h1).resolve_left (by simp)
  ·rintro⟨y,hy,h⟩;exact⟨(b,i,j),Yr.mpr ⟨folS_mem.mpr (.inr ⟨y,hy,h⟩),by simp⟩,rfl⟩
 have key:=qS5 hh hw nd (C:=corL S) (qB7 YT) (nf true) (nf false) hb (λi j=>by
   unfold corL;rw[folS_mem];have mc:∀y:Nat×Nat,(i,j)∈cs y<->(i=y.1\/i=y.1+1)/\(j=y.2\/j=y.2+1):=λy=>by
    unfold cs;simp only[Yb,List.range_zero,ZE,Zz,Xj,List.nil_append,Yi,Zv,ZR,XA,XN];lia
   simp only[ZR,false_or,mc]) (λi j=>by
   rw[mf];have ms:∀y:Nat×Nat,(true,i,j)∈sdL y<->(i=y.1\/i=y.1+1)/\j=y.2:=λy=>by
    unfold sdL;simp only[Zv,ZR,XA,XN,true_and,reduceCtorEq,false_and];lia
   simp only[ms]) (λi j=>by
   rw[mf];have ms:∀y:Nat×Nat,(false,i,j)∈sdL y<->i=y.1/\(j=y.2\/j=y.2+1):=λy=>by
    unfold sdL;simp only[Zv,ZR,XA,XN,true_and,reduceCtorEq,false_and,false_or];lia
   simp only[ms])
 rw[<- key,Ze,Ze];unfold qo5;have e1:(sidL S).filter (λx=>x.1==true)=(sidL S).filter (λx=>x.1):=by congr 1;funext x;cases x.1<;>rfl
 have e2:(sidL S).filter (λx=>x.1==false)=(sidL S).filter (λx=>!x.1):=by congr 1;funext x;cases x.1<;>rfl
 rw[e1,e2];lia
def byW(sd:Bool)(S:List (Nat×Nat)):Int:=if sd then qB6 S else qo5 S
theorem xb3{sd:Bool}{h w:Nat}{S:List (Nat×Nat)}{f:Nat->Nat->Bool}(hh:0<h)(hw:0<w)(nd:S.Nodup)(hb:∀x∈S,x.1<h/\x.2<w)(e:∀i j,i<h->j<w->(f i j=true<->(i,j)∈S)):byW sd S=qh2 sd h w f:=by
 rw[qw7 (f:=f) (g:=λi j=>decide ((i,j)∈S)) hh hw λi j hi hj=>by rw[ZO,e i j hi hj,Z4]];unfold byW qh2;rw[qS4 hh hw nd hb,qH3 hh hw nd hb]
end Qf
namespace Pr
open PySem L2 Qf
abbrev nRR:List Str:=["row", "rows"]
theorem xy1:nRR.Nodup:=by decide +kernel
section
variable{P:Program}{w:World}{K:PySem.W.Frag}{mg:Str->Option Value}{base:Heap}
theorem xt1:FnScope ["number"] ["number"] (qa5 q00):=qd4
def q44:Sp:=λvs H Q _=>∃q:Nat,vs=[.int (q:Nat)]/\Q (.int (ex q:Nat)) H
theorem q45{f:Addr}{fd:FuncData}(F:Fun K "exchanged" "exchanged" q00 f fd)(T:Cst mg):FnOk P w K mg base CX0 1 f fd ["number"] q44:=by
 obtain⟨tf,hf⟩:=T.first;obtain⟨tu,hu⟩:=T.full;refine F.ok xt1 (λvs H Q E h=>?_) (λcdv A outer s H vs Q E hr h=>?_)
 ·obtain⟨x,rfl,_⟩:=h
  rfl
 ·obtain⟨x,rfl,q⟩:=h;refine⟨_,qc2 (qe5 (qb8 qp0 (pv 0) (qc5 (v:=.int 2) (by rfl) hf ⟨_,rfl⟩) (qb6 _)) (qa9 (qb1 (qa6 qc9 (qc5 (v:=.int 1) (by rfl) hu ⟨_,rfl⟩) (pv 0)))) qb7) (qa9 (qb1 (pv 0))),?_⟩;refine⟨_,rfl,_,_,rfl,rfl,_,rfl,?_⟩;refine ite2 (λhc=>?_) (λhc=>?_)
  ·have x2:x<2:=by have:=ZG hc;lia
   refine⟨_,rfl,_,_,rfl,rfl,?_⟩;have e:ex x=1-x:=Zm x2;rw[e] at q;show Q (V.int (1-(x:Int))) H;rw[show (1:Int)-(x:Int)=((1-x:Nat):Int) by lia];exact q
  ·have x2:¬x<2:=λz=>hc (Zq (by lia));have e:ex x=x:=Zh x2;rw[e] at q;exact⟨_,rfl,q⟩
theorem scExchR:FnScope ["rows"] ["rows"] (qa5 qF6):=qd4
def q46:Sp:=λvs H Q _=>∃(p:Addr)(rows:List Row),vs=[.ref p]/\RowsAt H p rows/\qb3 rows/\rows.length<=1190900/\∀H' p',Same H H'->RowsAt H' p' (exr rows)->Q (.ref p') H'
theorem xb4{f fX:Addr}{fd fdX:FuncData}(F:Fun K "exchanged_rows" "exchanged_rows" qF6 f fd)(B:Blt mg)(T:Cst mg)
  (hX:mg "exchanged" = some (.ref fX)) (FX:Fun K "exchanged" "exchanged" q00 fX fdX) (bX:Binds K fdX ["number"] []):FnOk P w K mg base CX0 2 f fd ["rows"] q46:=by
 have GX:FnOk P w K mg base CX0 1 fX fdX ["number"] q44:=q45 FX T;refine F.ok scExchR (λvs H Q E h=>?_) (λcdv A outer s H vs Q E hr h=>?_)
 ·obtain⟨p,rows,rfl,_⟩:=h
  rfl
 ·obtain⟨p,rows,rfl,jC,ok,hl,q⟩:=h;obtain⟨bs,hp,j2,j6⟩:=id jC;have jH:(bs.map V.ref).length=rows.length:=by rw[Ze];exact j2
  refine⟨_,qa9 (qb1 (qc3 (tupO K rfl) (by rfl) B.tuple ZM (qa0 (qh5 ["rows"] (qa5 qF6) rfl rfl rfl scExchR.nd (piT K rfl (pv 0))
   (λcl C fp s₀ H₀=>qc3 (tupO K rfl) (by rfl) B.tuple ZM (qa0 (qh5 nRR _ rfl rfl rfl xy1 (piT K rfl (pv 0))
    (λcl2 C2 fp2 s2 H2=>pcN GX hr hX FX.kp bX (qa0 (pv 0) qa2)) (hfr:=by rfl)) qa2))) qa2))),?_⟩
  refine⟨_,rfl,p,rfl,⟨_,SqT.of hp⟩,λD hD=>qg1 hD (λi z H1=>∃b r,z=.ref b/\rows[i]?=some r/\H1 b=some (.tup (vN (r.map ex)))) (qk0 (K:=K) hp) (by rw[jH];exact qi0 (by lia)) ?_ ?_ ?_⟩
  ·rintro i z H1 H2 _ tk ⟨b,r,rfl,h1,h2⟩;exact⟨b,r,rfl,h1,tk _ _ h2⟩
  ·intro j x H3 hj hx s3 Q' hq;have jK:j<rows.length:=by rw[<- jH];exact hj
   rw[Zg] at hx;obtain⟨b,hb,rfl⟩:=Zl.mp hx;have j8:rows[j]?=some rows[j]:=by simp[jK]
   have kW:=s3 _ _ (j6 j b _ hb j8);have rk:=ok j _ j8;generalize rows[j]=r at j8 kW rk;refine⟨_,rfl,b,rfl,⟨_,SqT.of kW⟩,λD2 k6=>qg1 k6 (λi z _=>∃m:Nat,r[i]?=some m/\z=.int (ex m:Nat)) (qk0 (K:=K) kW) (by rw[qg5,rk.1];decide) (λ_ _ _ _ _ _ h=>h) ?_ ?_⟩
   ·intro i x H4 hi hx s4 Q2 kB;obtain⟨m,hm,rfl⟩:=qv2 hx;exact⟨_,rfl,m,rfl,kB _ _ (Same.refl _) ⟨m,hm,rfl⟩⟩
   ·intro ys H4 s4 jR jO jN;have ey:ys=vN (r.map ex):=by
     refine qh6 (by rw[jO,qg5,qg5,Ze]) λi x hx=>?_;obtain⟨m,hm,rfl⟩:=jN i x hx;exact xp9 (by rw[Zg,hm];rfl)
    refine⟨D2,ys,rfl,.inl ⟨SqL.of jR,λl jG=>hq _ _ (s4.trans (qb0 jG)) ⟨l,r,rfl,j8,?_⟩⟩⟩;rw[qa1,ey]
  ·intro ys H3 s3 kD jO jN;refine⟨D,ys,rfl,.inl ⟨SqL.of kD,λl jG=>q _ l (s3.trans (qb0 jG)) ?_⟩⟩;have refs:∀(zs:List V)(H1:Hp),(∀(i:Nat) z,zs[i]?=some z->∃b r,z=.ref b/\rows[i]?=some r/\H1 b=some (.tup (vN (r.map ex))))->∃cs:List Addr,zs=cs.map V.ref:=λzs H1 hz=>by
    have:∀zs:List V,(∀z∈zs,∃b:Addr,z=.ref b)->∃cs:List Addr,zs=cs.map V.ref:=λzs=>by
     induction zs with
     |nil=>exact λ_=>⟨[],rfl⟩
     |cons z zs ih=>
      intro h;obtain⟨b,rfl⟩:=h z Zu;obtain⟨cs,rfl⟩:=ih λy hy=>h y (Zn _ hy);exact⟨b::cs,rfl⟩
    refine this zs λz hzm=>?_;obtain⟨i,hi,e⟩:=ZI.mp hzm;obtain⟨b,_,e2,_⟩:=hz i z (by simp[hi,e]);exact⟨b,e2⟩
   obtain⟨cs,rfl⟩:=refs ys H3 jN;have jS:cs.length=rows.length:=by rw[Ze] at jO;rw[jO,jH]
   refine⟨cs,qa1,by rw[jS];simp[exr],λi b r e1 e2=>?_⟩;obtain⟨b',r',e3,e4,e5⟩:=jN i (.ref b) (by rw[Zg,e1];rfl);cases e3;have:r=r'.map ex:=by
    unfold exr at e2;rw[Zg,e4] at e2;exact (ZC e2).symm
   rw[this];exact qb4 e5 jG
end
end Pr
namespace L2
open PySem
section
variable{X:Cx}
variable{o e:Expr}{es:List Expr}{to:TE}{t:TA}{name:Str}{apos cpos:Pos}{id:String}{r:V->List V->Hp->VK->Prop}
end
end L2
namespace L2
open PySem PySem.Spec PyProof.Rows
theorem ql8{prog:Program}{w:World}{A:Around}{E:Value->Shared->Prop}{s:Shared}{t sl:Addr}{items:Array Value}{vl vu:Value}{lo hi:Option Int}{Q:Value->Shared->Prop}(ht:IsTup s.heap t items)(hs:s.heap.IsSliceOf sl vl vu .none)(pl:IsPart vl lo)(pu:IsPart vu hi)
  (h0:HT.sIx items.size 0 lo=0) (h1:HT.sIx items.size items.size hi=items.size) (h:Q (.ref t) s):wpAny (model prog w) A (getItem (.ref t) (.ref sl)) Q E s:=by
 obtain⟨os,kJ,hcs,jZ⟩:=id hs;have hTs:s.TypeIs (.ref sl) "slice":=⟨os,kJ,hcs⟩;unfold getItem
 try with_reducible refine Z3 ?_
 first|refine Za (Zb ?_)|skip
 refine Za (wpAny_sequenceKey ht.typeIs (by decide) ?_);refine Za (ZV (name:=Str.ofString "__getitem__") ht.typeIs ZZ
  (Z1 ZZ ht.typeIs entry_tuple_getitem ?_ (args_tuple_getitem _ _)))
 show wpAny _ _ (Builtin.Tuple.tupleItemsOf (.ref t) >>= _) _ _ s;refine Za (tupleItemsOf_ ht ?_);refine Za (WG hTs ?_);rw[Zm (by decide)];refine Za (HT.sliceApplied_gen hs pl pu ?_);show wpAny _ _ (if (((HT.sIx items.size 0 lo:Nat):Int)==0&&(1:Int)==1&&(HT.sIx items.size items.size hi-HT.sIx items.size 0 lo)==items.size)=true then _ else _) _ _ s;rw[Zm (by rw[h0,h1];simp)];refine Za ?_;unfold Builtin.Tuple.tupleIsExact;refine Za (WG ht.typeIs ?_);refine Zb ?_;rw[Zm (by decide)];refine Za (WN ?_);exact Zb ⟨_,rfl,Zb h⟩
section
variable{X:Cx}
def rSlW(K:PySem.W.Frag):V->Option Int->Option Int->Hp->VK->Prop:=λx lo hi H Q=>∃a xs,x=.ref a/\SqT K H a xs/\HT.sIx xs.length 0 lo=0/\HT.sIx xs.length xs.length hi=xs.length/\Q (.ref a) H
theorem xl8:SlR X (rSlW X.K):=by
 intro j1 s σ H x v vl vu lo hi sl Q I rx hs pl pu h;obtain⟨a,xs,rfl,hx,h0,h1,q⟩:=h;cases rx;obtain⟨its,r,ht,hz⟩:=I.tuple hx;have j2:its.toArray.size=xs.length:=by rw[ZA];exact r.length.symm
 refine⟨"tuple",_,ZZ.lookup,ht.typeIs,?_⟩;exact ql8 ht hs pl pu (by rw[j2];exact h0) (by rw[j2];exact h1) ⟨.ref a,H,I,rfl,q⟩
theorem q47:SlR X (λx lo hi H Q=>∃a xs,x=.ref a/\H a=some (.tup xs)/\∀p H',H' p=some (.tup (cutV xs lo hi))->(H'=H\/H p=none/\H'=upd H p (.tup (cutV xs lo hi)))->Q (.ref p) H'):=by
 intro j1 s σ H x v vl vu lo hi sl Q I rx hs pl pu h;obtain⟨a,xs,ex,ha,q⟩:=h;by_cases hc:HT.sIx xs.length 0 lo=0/\HT.sIx xs.length xs.length hi=xs.length
 ·refine xl8 j1 s σ H x v vl vu lo hi sl Q I rx hs pl pu ⟨a,xs,ex,SqT.of ha,hc.1,hc.2,q a H ?_ (.inl rfl)⟩;have:cutV xs lo hi=xs:=by unfold cutV;rw[hc.1,hc.2];simp
  rw[this];exact ha
 ·exact qV6 j1 s σ H x v vl vu lo hi sl Q I rx hs pl pu ⟨a,xs,ex,SqT.of ha,hc,λp hp=>q p _ qa1 (.inr ⟨hp,rfl⟩)⟩
theorem xb5:OpR X (binaryOp .Add) (λx y H Q=>∃a b ys,x=.ref a/\y=.ref b/\H a=some (.tup [])/\H b=some (.tup ys)/\Q (.ref b) H):=by
 intro j1 s σ H x y v u Q I rx ry h;obtain⟨a,b,ys,rfl,rfl,ha,hb,q⟩:=h;cases rx;cases ry;obtain⟨its,r1,p1,_⟩:=I.tuple (SqT.of ha);obtain⟨its2,r2,p2,_⟩:=I.tuple (SqT.of hb);cases r1;obtain⟨⟨cls,dd,data,sl⟩,ho,hc,n,hd⟩:=id p1;obtain⟨⟨cls2,dd2,data2,sl2⟩,k8,hc2,n2,jD⟩:=id p2;simp only at hc hd hc2 jD;subst hc hd hc2 jD;exact concat_meets ⟨_,ho,rfl⟩ ⟨_,k8,rfl⟩ noFill_tuple_add seq_tuple_add Wf Wa (XO _ _)
   (tuple_addW0 a b #[] its2.toArray n n2 dd dd2 sl sl2 rfl) ⟨ho,k8,⟨.ref b,H,I,rfl,q⟩⟩
theorem qB8:OpR X (binaryOp .Add) (λx y H Q=>∃a b xs ys,x=.ref a/\y=.ref b/\H a=some (.tup xs)/\H b=some (.tup ys)/\xs.length+ys.length<=sizeLine /\
  ∀p H',H' p=some (.tup (xs++ys))->(H'=H\/H p=none/\H'=upd H p (.tup (xs++ys)))->Q (.ref p) H'):=by
 intro j1 s σ H x y v u Q I rx ry h;obtain⟨a,b,xs,ys,ex,ey,ha,hb,hz,q⟩:=h;by_cases hx:xs=[]
 ·subst hx;exact xb5 j1 s σ H x y v u Q I rx ry ⟨a,b,ys,ex,ey,ha,hb,q b H hb (.inl rfl)⟩
 ·refine xg3 j1 s σ H x y v u Q I rx ry ⟨a,b,xs,ys,ex,ey,SqT.of ha,SqT.of hb,hx,hz,λe=>?_,λ_ p hp=>q p _ qa1 (.inr ⟨hp,rfl⟩)⟩;subst e;exact q a H (by rw[List.append_nil];exact ha) (.inl rfl)
end
end L2
namespace Pr
open PySem L2 Qf
abbrev nAI:List Str:=["self", "rows"]
inductive spAI_(P:Program)(w:World)(C:Addr)(vs:List V)(H:Hp)(Q:VK):Prop
 |mk(ac dx rp:Addr)(rows:List Row)(e0:vs=[.ref ac,.ref rp])(e1:H ac=some (.ins C dx []))(e2:RowsAt H rp rows)(e3:qb3 rows/\rows.length<=1000)
  (e4:∀H' cp kn,But ac H H'->H kn=none->AcAt P w H' C ac dx rp cp kn rows []->Q .non H')
def spAI(P:Program)(w:World)(C:Addr):Sp:=λvs H Q _=>spAI_ P w C vs H Q
section
variable{P:Program}{w:World}{K:PySem.W.Frag}{mg:Str->Option Value}{base:Heap}
theorem scAI:FnScope nAI nAI (qa5 qJ4):=qd4
theorem xy2{f fC C:Addr}{fd fdC:FuncData}(F:Fun K "__init__" "Account.__init__" qJ4 f fd)(AC:AcC K C)(B:Blt mg)(hC:mg "corners_of" = some (.ref fC))(FC:Fun K "corners_of" "corners_of" qn0 fC fdC)(bC:Binds K fdC ["rows"] []):FnOk P w K mg base CX0 2 f fd nAI (spAI P w C):=by
 have GC:FnOk P w K mg base CX0 1 fC fdC ["rows"] xr1:=xr2 FC B;refine F.ok scAI (λvs H Q E h=>?_) (λcdv A outer s H vs Q E hr h=>?_)
 ·obtain⟨ac,dx,rp,rows,rfl,_⟩:=h
  rfl
 ·obtain⟨ac,dx,rp,rows,rfl,hac,hR,hok,q⟩:=h;refine seqE ⟨_,⟨qV0 (pv 0) (pv 1) rfl⟩,?_⟩;refine seqE ⟨_,⟨qV0 (pv 0) (PEb.go ⟨pcN GC hr hC FC.kp bC (qa0 (pv 1) qa2)⟩) rfl⟩,?_⟩;refine qg2 ⟨_,⟨qV0 (pv 0) (q99 (nk:=acK)) rfl⟩,?_⟩;refine⟨_,rfl,_,rfl,ac,C,dx,[],rfl,hac,AC.cls,AC.rows,(by show 0<1000;decide),?_⟩;have up:∀{Hx:Hp}{o:HO},But ac Hx (upd Hx ac o):=λ{Hx o} x y e n=>by rw[qa7 n];exact e
  have h1:upd H ac (.ins C dx (putF "rows" (.ref rp) [])) ac=some (.ins C dx (putF "rows" (.ref rp) [])):=qa1;have B1:But ac H (upd H ac (.ins C dx (putF "rows" (.ref rp) []))):=up;have N1:∀x,upd H ac (.ins C dx (putF "rows" (.ref rp) [])) x=none->H x=none:=λx e=>by
   have n:x≠ac:=λz=>by rw[z,qa1] at e;cases e
   rwa [qa7 n] at e
  generalize upd H ac (.ins C dx (putF "rows" (.ref rp) []))=H1 at h1 B1 N1 ⊢;have tp:∀{Hx:Hp},But ac H Hx->Tups H Hx:=λB=>B.tups hac (λu z=>by cases z);refine⟨_,rfl,rp,rows,rfl,hR.mono (tp B1),hok.1,by lia,λH2 cp s2 hcp0 hcp=>?_⟩;have h2:=s2 _ _ h1;refine⟨_,rfl,ac,C,dx,_,rfl,h2,AC.cls,AC.corners,(by show 1<1000;decide),?_⟩;have h3:upd H2 ac (.ins C dx (putF "corners" (.ref cp) (putF "rows" (.ref rp) []))) ac=some (.ins C dx (putF "corners" (.ref cp) (putF "rows" (.ref rp) []))):=qa1;have B3:But ac H (upd H2 ac (.ins C dx (putF "corners" (.ref cp) (putF "rows" (.ref rp) [])))):=λx o e n=>by rw[qa7 n];exact s2 _ _ (B1 x o e n)
  have k3:∀x o,H2 x=some o->x≠ac->upd H2 ac (.ins C dx (putF "corners" (.ref cp) (putF "rows" (.ref rp) []))) x=some o:=λx o e n=>by rw[qa7 n];exact e
  generalize upd H2 ac (.ins C dx (putF "corners" (.ref cp) (putF "rows" (.ref rp) [])))=H3 at h3 B3 k3 ⊢;intro kn hkn H4 s4 hkn4 hN4;have h4:=s4 _ _ h3;have nak:ac≠kn:=qa4 h3 hkn;refine⟨_,rfl,ac,C,dx,_,rfl,h4,AC.cls,AC.known,(by show 2<1000;decide),?_⟩;have hkH:H kn=none:=by
   cases e:H kn with
   |none=>rfl
   |some o=>rw[B3 _ _ e (Xc nak)] at hkn;cases hkn
  have nac:∀{x:Addr}{o:HO},H2 x=some o->(∀d fl,o≠.ins C d fl)->x≠ac:=λ{x o} e n z=>by
   rw[z,h2] at e;exact n _ _ (ZC e).symm
  have U:∀{x:Addr}{o:HO},H2 x=some o->(∀d fl,o≠.ins C d fl)->upd H4 ac (.ins C dx (acFl rp cp kn)) x=some o:=λ{x o} e n=>by
   rw[qa7 (nac e n)];exact s4 _ _ (k3 _ _ e (nac e n))
  refine q _ cp kn (λx o e n=>by rw[qa7 n];exact s4 _ _ (B3 x o e n)) hkH ⟨qa1,?_,?_,?_,(λx y up v _ _ e=>by cases e),YT,(λk hk=>by cases hk)⟩
  ·exact hR.mono λx u e=>U (s2 _ _ (tp B1 _ _ e)) (λd fl z=>by cases z)
  ·obtain⟨bs,e1,e2,e3⟩:=hcp;exact⟨bs,U e1 (λd fl z=>by cases z),e2,λx b e=>U (e3 x b e) (λd fl z=>by cases z)⟩
  ·refine hN4.mono (λb xs e=>?_) (λo e=>?_)
   ·rw[qa7 (λz=>by rw[z,h4] at e;cases e)];exact e
   ·rw[qa7 (Xc nak)];exact e
end
end Pr
namespace Qf
def balW(sd:Bool)(t:Tr):Int:=if sd then bal t else 1-bal (arT t)
def wayS(sd:Bool):PySem.Str:=if sd then "sides" else "corners"
end Qf
namespace Pr
open PySem L2 Qf
section
variable{P:Program}{w:World}{K:PySem.W.Frag}{mg:Str->Option Value}{base:Heap}
theorem xy3:FnScope ["by"] ["by"] (qa5 qs3):=qd4
inductive spWay_(vs:List V)(H:Hp)(Q:VK):Prop
 |mk(sd:Bool)(e0:vs=[.str (wayS sd)])(e1:∀H',Same H H'->Q .non H')
def xt2:Sp:=λvs H Q _=>spWay_ vs H Q
structure Ways(mg:Str->Option Value):Prop where
 sides:∃t,mg "SIDES" = some (.str "sides" t)
 corners:∃t,mg "CORNERS" = some (.str "corners" t)
theorem xt3{f:Addr}{fd:FuncData}(F:Fun K "want_way" "want_way" qs3 f fd)(B:Blt mg)(kR:mg "str" = none)(Wy:Ways mg):FnOk P w K mg base CX0 1 f fd ["by"] xt2:=by
 obtain⟨t1,hsi⟩:=Wy.sides;obtain⟨t2,hco⟩:=Wy.corners;refine F.ok xy3 (λvs H Q E h=>?_) (λcdv A outer s H vs Q E hr h=>?_)
 ·obtain⟨sd,rfl,_⟩:=h
  rfl
 ·obtain⟨sd,rfl,q⟩:=h;refine qg2 ⟨_,⟨qe5 (PW.pt (qt2 (qq8 (qg9 (qa8 qj9 (by rfl) B.isi Z5 (qa0 (pv 0) (qa0 (qo8 (v:=.ty "str") (by rfl) kR PyProof.Rows.boot_str rfl) qa2)))))
   (qk7 (qb8 qD5 (pv 0) (PEb.go ⟨qc1 (qa0 (qc5 (v:=.str "sides") (by rfl) hsi ⟨_,rfl⟩) (qa0 (qc5 (v:=.str "corners") (by rfl) hco ⟨_,rfl⟩) qa2))⟩) (by first|exact qb6 _|rfl|decide|with_unfolding_all rfl))))) qi4 qb7⟩,?_⟩
  refine⟨_,rfl,_,_,_,_,true,rfl,rfl,.inl (.str _),rfl,_,rfl,iteF ?_⟩;refine⟨_,rfl,(by show 2<=sizeLine;decide),λp hp=>⟨p,_,rfl,.inr (SqT.of qa1),rfl,rfl,_,rfl,?_⟩⟩;rw[show (if true=true then !inV (.str (wayS sd)) [.str "sides",.str "corners"] else inV (.str (wayS sd)) [.str "sides",.str "corners"])=false by cases sd<;>decide +kernel];exact iteF (q _ (qb0 hp))
abbrev nBal:List Str:=["shape", "by", "top", "rows", "amid", "around"]
theorem scBal:FnScope nBal ["shape", "by"] (qa5 qs4):=qd4
inductive spBal_(vs:List V)(H:Hp)(Q:VK):Prop
 |mk(t:Addr)(sd:Bool)(n tp:Nat)(rows:List Row)(e0:vs=[.ref t,.str (wayS sd)])(e1:qv9 H t n tp rows)(e2:∀H',Same H H'->Q (.int (balW sd (T rows tp))) H')
def xt4:Sp:=λvs H Q _=>spBal_ vs H Q
theorem xt5{f fW fY fE fX fI fN C:Addr}{fd fdW fdY fdE fdX fdI fdN:FuncData}(F:Fun K "balance" "balance" qs4 f fd)(B:Blt mg)(Tc:Cst mg)(Wy:Ways mg)(AC:AcC K C)(mgC:mg "Account" = some (.ref C))
  (hW:mg "want_shape" = some (.ref fW)) (FW:Fun K "want_shape" "want_shape" qM4 fW fdW) (bW:Binds K fdW ["shape"] []) (GW:FnOk P w K mg base CX0 16 fW fdW ["shape"] q12)
  (hY:mg "want_way" = some (.ref fY)) (FY:Fun K "want_way" "want_way" qs3 fY fdY) (bY:Binds K fdY ["by"] []) (GY:FnOk P w K mg base CX0 1 fY fdY ["by"] xt2)
  (hE:mg "exchanged_rows" = some (.ref fE)) (FE:Fun K "exchanged_rows" "exchanged_rows" qF6 fE fdE) (bE:Binds K fdE ["rows"] []) (GE:FnOk P w K mg base CX0 2 fE fdE ["rows"] q46)
  (hX:mg "exchanged" = some (.ref fX)) (FX:Fun K "exchanged" "exchanged" q00 fX fdX) (bX:Binds K fdX ["number"] [])
  (MI:Mk K C fI) (bI:Binds K fdI nAI []) (GI:FnOk P w K mg base CX0 2 fI fdI nAI (spAI P w C))
  (MN:Meth K C "of_number" fN) (bN:Binds K fdN ["self", "top"] []) (GN:FnOk P w K mg base CX0 34 fN fdN ["self", "top"] (spOf P w C)):FnOk P w K mg base CX0 35 f fd ["shape", "by"] xt4:=by
 have GX:FnOk P w K mg base CX0 1 fX fdX ["number"] q44:=q45 FX Tc;obtain⟨tf,hfi⟩:=Tc.first;obtain⟨tu,vC⟩:=Tc.full;obtain⟨t1,hsi⟩:=Wy.sides;refine F.ok scBal (λvs H Q E h=>?_) (λcdv A outer s H vs Q E hr h=>?_)
 ·obtain⟨t,sd,n,tp,rows,rfl,_⟩:=h
  rfl
 ·obtain⟨t,sd,n,tp,rows,rfl,hSh,q⟩:=h;have hr16:Room 16 _:=hr.mono (by decide);have kS:Room 3 _:=hr.mono (by decide);have kZ:Room 2 _:=hr.mono (by decide);have j8:Room 1 _:=hr.mono (by decide);refine seqE ⟨_,⟨ql0 (pcN GW hr16 hW FW.kp bW (qa0 (pv 0) qa2))⟩,?_⟩;refine seqE ⟨_,⟨ql0 (pcN GY j8 hY FY.kp bY (qa0 (pv 1) qa2))⟩,?_⟩;refine seqE ⟨_,⟨qr1 (qr8 qV6 (pv 0) (qz4 qa3) qz3) (qm0 rfl (qb9 (pgN 2 scBal.nd) (qb9 (pgN 3 scBal.nd) qh3)))⟩,?_⟩;refine seqE ⟨_,⟨qe5 (qb8 qP7 (pv 1) (qc5 (v:=.str (wayS true)) (by rfl) hsi ⟨_,rfl⟩) (by first|exact qb6 _|rfl|decide|with_unfolding_all rfl)) (qa9 (qb1 (PEb.go ⟨qg6 (PEb.go ⟨qV3 MI GI kS (by rfl) mgC bI .nil qm3 (qa0 (pv 3) qa2)⟩) AC.cls MN GN hr bN .nil qm3 (qa0 (pv 2) qa2)⟩))) qb7⟩,?_⟩;refine seqE ⟨_,⟨psN 4 scBal.nd (qa6 qb5 (qa8 qd3 (by rfl) B.len ZT (qa0 (pv 3) qa2)) (qc5 (v:=.int 2) (by rfl) hfi ⟨_,rfl⟩))⟩,?_⟩;refine seqE ⟨_,⟨psN 5 scBal.nd (PEb.go ⟨qa6 qB8 (PEb.go ⟨pcN GE kZ hE FE.kp bE (qa0 (pv 3) qa2)⟩)
   (PEb.go ⟨qc1 (qa0 (PEb.go ⟨@qc1 _ _ _ _ _ (Ars2.go (.cons ⟨qc5 (v:=.int 1) (by rfl) vC ⟨_,rfl⟩⟩ (.cons ⟨qc5 (v:=.int 1) (by rfl) vC ⟨_,rfl⟩⟩ (.cons ⟨qc5 (v:=.int 1) (by rfl) vC ⟨_,rfl⟩⟩ (.cons ⟨pcN GX j8 hX FX.kp bX (qa0 (pv 2) qa2)⟩ .nil rfl) rfl) rfl) rfl))⟩)
    (qa0 (PEb.go ⟨@qc1 _ _ _ _ _ (Ars2.go (.cons ⟨pv 4⟩ (.cons ⟨qc5 (v:=.int 1) (by rfl) vC ⟨_,rfl⟩⟩ (.cons ⟨qc5 (v:=.int 1) (by rfl) vC ⟨_,rfl⟩⟩ (.cons ⟨qc5 (v:=.int 1) (by rfl) vC ⟨_,rfl⟩⟩ .nil rfl) rfl) rfl) rfl))⟩) qa2))⟩)⟩)⟩,?_⟩
  refine qg2 ⟨_,⟨qb1 (PEb.go ⟨qa6 qc9 qa3 (PEb.go ⟨qg6 (PEb.go ⟨qV3 MI GI kS (by rfl) mgC bI .nil qm3 (qa0 (pv 5) qa2)⟩) AC.cls MN GN hr bN .nil qm3 (qa0 (PEb.go ⟨qa6 qb5 (pv 4) qa3⟩) qa2)⟩)⟩)⟩,?_⟩;refine⟨_,rfl,t,n,tp,rows,rfl,hSh,λH1 s1=>?_⟩;refine⟨_,rfl,sd,rfl,λH2 s2=>?_⟩;obtain⟨⟨rp,ht,hR⟩,cn,hl⟩:=xj2 hSh (s1.trans s2);have hd:=qS3 cn;refine⟨_,rfl,_,rfl,t,_,rfl,SqT.of ht,(by show ¬(HT.sIx 3 0 (some 1)=0/\HT.sIx 3 3 none=3);decide),λu hu=>?_⟩;have hut:upd H2 u (.tup (cutV [.int (n:Nat),.int (tp:Nat),.ref rp] (some 1) none)) u=some (.tup [.int (tp:Nat),.ref rp]):=qa1;have s3:Same H2 (upd H2 u (.tup (cutV [.int (n:Nat),.int (tp:Nat),.ref rp] (some 1) none))):=qb0 hu;have s03:=s1.trans (s2.trans s3);have kF:=hR.same s3;generalize upd H2 u (.tup (cutV [.int (n:Nat),.int (tp:Nat),.ref rp] (some 1) none))=H3 at hut s3 s03 kF ⊢;clear hu s3;refine⟨u,_,rfl,SqT.of hut,rfl,_,_,rfl,_,_,rfl,rfl,?_⟩;have S:∀{H4 H5 H6:Hp}{a dx kn:Addr}{fl:List (Str×V)},H4 a=none->H4 dx=none->But a (upd (upd H4 dx (.own a)) a (.ins C dx fl)) H5->upd (upd H4 dx (.own a)) a (.ins C dx fl) kn=none->But kn H5 H6->Same H4 H6:=λ{H4 H5 H6 a dx kn fl} ha jY b5 hk b6 y o e=>by
   have e2:upd (upd H4 dx (.own a)) a (.ins C dx fl) y=some o:=by rw[qa7 (qa4 e ha),qa7 (qa4 e jY)];exact e
   exact b6 _ _ (b5 _ _ e2 (qa4 e ha)) (qa4 e2 hk)
  have R:∀{H4:Hp}{a dx r2:Addr}{rows2:List Row}{fl:List (Str×V)},H4 a=none->H4 dx=none->RowsAt H4 r2 rows2->RowsAt (upd (upd H4 dx (.own a)) a (.ins C dx fl)) r2 rows2:=λha jY h=>h.mono λx v e=>by
   rw[qa7 (qa4 e ha),qa7 (qa4 e jY)];exact e
  refine⟨_,rfl,rfl,_,rfl,?_⟩;cases sd with
  |true=>
   rw[Zq rfl];refine iteT ⟨_,rfl,λa dx ha jY jB=>?_⟩;refine⟨a,dx,rp,rows,rfl,qa1,R ha jY kF,⟨cn.rok,by lia⟩,λH5 cp kn b5 hk5 vR=>⟨rfl,a,dx,_,rfl,vR.ob,rfl,_,rfl,a,dx,rp,cp,kn,rows,[],tp,rfl,vR,⟨cn.rok,by lia⟩,cn.inn,λy hy=>ZH (hd y hy) (by have:=cn.size;lia),λH6 b6=>?_⟩⟩;exact q H6 (s03.trans (S ha jY b5 hk5 b6))
  |false=>
   rw[Zp (show ¬V.str (wayS false)=V.str (wayS true) by decide +kernel)];refine iteF ?_;obtain⟨bs,hp,vP,j6⟩:=id kF;refine⟨_,rfl,rp,_,rfl,.inr (SqT.of hp),_,_,rfl,rfl,?_⟩;rw[Ze,vP];refine⟨_,rfl,rp,rows,rfl,kF,cn.rok,by lia,λH4 ep s4 hE=>?_⟩;refine⟨_,rfl,tp,rfl,(by show 4<=sizeLine;decide),λq1 hq1=>⟨_,rfl,(by show 4<=sizeLine;decide),λq2 kB=>⟨(by show 2<=sizeLine;decide),λq3 hq3=>?_⟩⟩⟩;obtain⟨cs,hep,jS,hcr⟩:=id hE;rw[qd7] at jS;have s6:=(qb0 (o:=.tup (vN [1,1,1,ex tp])) hq1).trans ((qb0 (o:=.tup (vN [rows.length+2,1,1,1])) kB).trans (qb0 (o:=.tup [.ref q1,.ref q2]) hq3));have g1:upd (upd (upd H4 q1 (.tup (vN [1,1,1,ex tp]))) q2 (.tup (vN [rows.length+2,1,1,1]))) q3 (.tup [.ref q1,.ref q2]) q1=some (.tup (vN [1,1,1,ex tp])):=qb4 (qb4 qa1 kB) hq3;have g2:upd (upd (upd H4 q1 (.tup (vN [1,1,1,ex tp]))) q2 (.tup (vN [rows.length+2,1,1,1]))) q3 (.tup [.ref q1,.ref q2]) q2=some (.tup (vN [rows.length+2,1,1,1])):=qb4 qa1 hq3;have g3:upd (upd (upd H4 q1 (.tup (vN [1,1,1,ex tp]))) q2 (.tup (vN [rows.length+2,1,1,1]))) q3 (.tup [.ref q1,.ref q2]) q3=some (.tup [.ref q1,.ref q2]):=qa1;refine⟨ep,q3,_,_,rfl,rfl,s6 _ _ hep,g3,by rw[Ze,jS];exact Wc (qi0 (by show rows.length+2<=_;lia)),λap H7 hap hH7=>?_⟩;have s7:Same (upd (upd (upd H4 q1 (.tup (vN [1,1,1,ex tp]))) q2 (.tup (vN [rows.length+2,1,1,1]))) q3 (.tup [.ref q1,.ref q2])) H7:=by
    rcases hH7 with e|⟨e1,e2⟩
    ·rw[e];exact Same.refl _
    ·rw[e2];exact qb0 e1
   have hA:RowsAt H7 ap (qi1 rows tp):=by
    refine⟨cs++[q1,q2],by rw[hap,ZE];rfl,by rw[Zi,jS,qq4];rfl,λi b r e1 e2=>?_⟩;unfold qi1 at e2;by_cases hi:i<rows.length
    ·rw[Zo (by lia)] at e1;rw[Zo (by rw[qd7];lia)] at e2;exact s7 _ _ (s6 _ _ (hcr i b r e1 e2))
    ·rw[Zk (by lia),jS] at e1;rw[Zk (by rw[qd7];lia),qd7] at e2;generalize i-rows.length=j at e1 e2
     match j,e1,e2 with
     |0,e1,e2=>cases e1;cases e2;exact s7 _ _ g1
     |1,e1,e2=>cases e1;cases e2;exact s7 _ _ g2
     |j+2,e1,_=>cases e1
   have s47:=s4.trans (s6.trans s7);refine⟨_,rfl,λa dx ha jY jB=>?_⟩;have okA:=qw6 cn.rok cn.inn;have lA:=qq4 rows tp;refine⟨a,dx,ap,qi1 rows tp,rfl,qa1,R ha jY hA,⟨okA,by lia⟩,λH8 cp kn b5 hk5 vR=>⟨rfl,a,dx,_,rfl,vR.ob,rfl,_,rfl,_,_,rfl,rfl,a,dx,ap,cp,kn,qi1 rows tp,[],rows.length+3,rfl,vR,⟨okA,by lia⟩,by lia,λy hy=>ZH (qS2 cn.rok cn.inn hd y hy) (by have:=cn.size;lia),λH9 b6=>?_⟩⟩;rw[qO3 cn.rok cn.inn];exact⟨_,_,rfl,rfl,q H9 (s03.trans (s47.trans (S ha jY b5 hk5 b6)))⟩
end
end Pr
namespace L2
open PySem
def sK(x:Bool×Nat×Nat):List Key:=[.inr (if x.1 then "-" else "|"),.inl (x.2.1:Int),.inl (x.2.2:Int)]
theorem xt6:∀a b,sK a=sK b->a=b:=λa b e=>by
 obtain⟨e0,e⟩:=Xb e;obtain⟨e1,e⟩:=Xb e;obtain⟨e2,_⟩:=Xb e;have f1:=Xi e1;have f2:=Xi e2;have f0:=Sum.inr.inj e0;have g:∀a b:Bool,(if a=true then ("-" : Str) else ("|" : Str))=(if b=true then ("-" : Str) else ("|" : Str))->a=b:=by decide +kernel
 exact YJ (g _ _ f0) (YJ (by lia) (by lia))
end L2
namespace Pr
open PySem L2 Qf
section
variable{P:Program}{w:World}{K:PySem.W.Frag}{mg:Str->Option Value}{base:Heap}
abbrev nBc:List Str:=["_law_there", "_law_corners", "_law_sides", "_law_r", "_law_c", "_law_k", "_law_side"]
theorem scBc:FnScope nBc ["_law_there"] (qa5 qk2):=qd4
inductive spBc_(vs:List V)(H:Hp)(Q:VK):Prop
 |mk(d:Addr)(S:List (Nat×Nat))(e0:vs=[.ref d])(e1:H d=some (.dT (dD cK S)))(e2:S.length<=1000)(e3:∀H',But d H H'->Q (.int (qo5 S)) H')
def spBc:Sp:=λvs H Q _=>spBc_ vs H Q
def csk(r c k:Nat):List (Nat×Nat):=(List.range k).map λj=>(r+j/2,c+j%2)
theorem xy4{f:Addr}{fd:FuncData}(F:Fun K "_law_by_corners" "_law_by_corners" qk2 f fd)(B:Blt mg):FnOk P w K mg base CX0 1 f fd ["_law_there"] spBc:=by
 refine F.ok scBc (λvs H Q E h=>?_) (λcdv A outer s H vs Q E hr h=>?_)
 ·obtain⟨d,S,rfl,_⟩:=h
  rfl
 ·obtain⟨d,S,rfl,hd,hl,q⟩:=h;have un:=hr.units;have hu:_+1<cLine:=ZS (Xe (show 1<=64 by decide) _) un;refine seqE ⟨_,⟨psN 1 scBc.nd qr9⟩,?_⟩;refine seqE ⟨_,⟨psN 2 scBc.nd qr9⟩,?_⟩;refine seqE ⟨_,⟨qh0 Z0 rfl (qN7 (pv 0)) (qm0 rfl (qb9 (pgN 3 scBc.nd) (qb9 (pgN 4 scBc.nd) qh3)))
   (StB.go (.cons ⟨qh0 Z0 rfl (qi5 (by rfl) B.range (qa0 qa3 qa2)) (pgN 5 scBc.nd)
     (StB.go (.one ⟨qp2 hu (pv 1) (PEb.go ⟨qc1 (qa0 (qa6 qb5 (pv 3) (qa6 qf8 (pv 5) qa3)) (qa0 (qa6 qb5 (pv 4) (qa6 qr2 (pv 5) qa3)) qa2))⟩) qk6 (by rfl)⟩))⟩
    (.one ⟨qh0 Z0 rfl (qo9 (@qk8 _ _ _ _ (Ars2.go (.cons ⟨qc1 (qa0 qq7 (qa0 (pv 3) (qa0 (pv 4) qa2)))⟩ (.cons ⟨qc1 (qa0 qq7 (qa0 (qa6 qb5 (pv 3) qa3) (qa0 (pv 4) qa2)))⟩ (.cons ⟨qc1 (qa0 qq7 (qa0 (pv 3) (qa0 (pv 4) qa2)))⟩ (.cons ⟨qc1 (qa0 qq7 (qa0 (pv 3) (qa0 (qa6 qb5 (pv 4) qa3) qa2)))⟩ .nil rfl) rfl) rfl) rfl)))) (pgN 6 scBc.nd)
     (StB.go (.one ⟨qp2 hu (pv 2) (pv 6) qk6 (by rfl)⟩))⟩)))⟩,?_⟩
  refine qg2 ⟨_,⟨qb1 (PEb.go ⟨qa6 qb5 (qa6 qc9 (qa8 qk5 (by rfl) B.len ZT (qa0 (pv 1) qa2)) (qa8 qk5 (by rfl) B.len ZT (qa0 (pv 2) qa2))) (qa8 qk5 (by rfl) B.len ZT (qa0 (pv 0) qa2))⟩)⟩,?_⟩;refine λk1 vA k2 vJ=>?_;have n1:d≠k1:=qa4 hd vA;have hd1:=qb4 (u:=.dT []) hd vA;have n2:d≠k2:=qa4 hd1 vJ;have n12:k1≠k2:=qa4 qa1 vJ;have hk2':H k2=none:=by rw[qa7 n12.symm] at vJ;exact vJ
  refine⟨_,rfl,d,_,rfl,qb4 hd1 vJ,λo=>qH0 (λi σ H2=>H2 d=some (.frz o (.dT (dD cK S)))/\H2 k1=some (.dT (dD cK (folS cs (S.take i) [])))/\H2 k2=some (.dT (dD sK (folS sdL (S.take i) [])))/\But d H H2/\∃v3 v4 v5 v6,σ=[some (.ref d),some (.ref k1),some (.ref k2),v3,v4,v5,v6]) (λi σ H2 h=>h.1)
   ⟨qa1,?_,?_,λx u e n=>by rw[qa7 n,qa7 (qa4 e hk2'),qa7 (qa4 e vA)];exact e,none,none,none,none,rfl⟩ ?_ ?_⟩
  ·rw[qa7 n1.symm,qa7 n12,qa1];rfl
  ·rw[qa7 n2.symm,qa1];rfl
  ·rintro i b kv σ H2 kT hb ⟨hz,h1,h2,bt,v3,v4,v5,v6,rfl⟩;unfold dD at kT;rw[Zg] at kT;obtain⟨⟨r,c⟩,hx,rfl⟩:=Zl.mp kT;have hi:i<S.length:=(gS_ hx).1
   replace hb:H2 b=some (.tup [.int (r:Nat),.int (c:Nat)]):=hb
   have lC:=qs9 (f:=cs) (n:=4) (λ_=>rfl) (S.take i) [];have lM:=qs9 (f:=sdL) (n:=4) (λ_=>rfl) (S.take i) [];rw[YO] at lC lM;simp only[Vf] at lC lM;rw[qH2 hx,qH2 hx];generalize folS cs (S.take i) []=C at h1 lC ⊢;generalize folS sdL (S.take i) []=M at h2 lM ⊢;refine⟨b,_,rfl,SqT.of hb,rfl,_,_,rfl,_,_,rfl,rfl,?_⟩;refine qN8 (σ':=[some (.ref d),some (.ref k1),some (.ref k2),some (.int (r:Nat)),some (.int (c:Nat)),v5,v6]) rfl ?_;refine⟨4,rfl,by decide,by decide,qm1 (λk σ H3=>H3 d=some (.frz o (.dT (dD cK S)))/\H3 k1=some (.dT (dD cK (insL (csk r c k) C)))/\H3 k2=some (.dT (dD sK M))/\But d H H3/\∃v5,σ=[some (.ref d),some (.ref k1),some (.ref k2),some (.int (r:Nat)),some (.int (c:Nat)),v5,v6])
    ⟨hz,h1,h2,bt,v5,rfl⟩ ?_ ?_⟩
   ·rintro k σ H3 hk ⟨hz,h1,h2,bt,v5,rfl⟩;have hlk:(insL (csk r c k) C).length<sizeLine:=by
     have h3:=qo4 (csk r c k) C;have h4:(csk r c k).length=k:=by unfold csk;rw[Ze,Y3]
     exact qi0 (by lia)
    refine⟨_,rfl,_,rfl,_,rfl,_,_,rfl,rfl,⟨by decide,by decide⟩,_,_,rfl,rfl,_,rfl,_,rfl,_,_,rfl,rfl,by decide,_,_,rfl,rfl,(by show 2<=sizeLine;decide),λt ht=>?_⟩;have et:V.int ((r:Int)+(0+(k:Nat):Int)/2)=.int ((r+k/2:Nat):Int):=by congr 1;lia
    have et2:V.int ((c:Int)+(0+(k:Nat):Int)%2)=.int ((c+k%2:Nat):Int):=by congr 1;lia
    rw[et,et2] at *;have nt1:k1≠t:=qa4 h1 ht;refine⟨k1,_,rfl,DPut.t (k:=cK (r+k/2,c+k%2)) (qb4 h1 ht) qa1 (by rw[qo3];exact hlk),?_⟩;rw[q42 qH1];have K:∀{x:Addr}{u:HO},H3 x=some u->x≠k1->upd (upd H3 t (.tup [.int ((r+k/2:Nat):Int),.int ((c+k%2:Nat):Int)])) k1 (.dT (dD cK (insC (r+k/2,c+k%2) (insL (csk r c k) C)))) x=some u:=λe n=>by rw[qa7 n];exact qb4 e ht
    refine⟨K hz n1,?_,K h2 n12.symm,λx u e n=>K (bt x u e n) (qa4 e vA),_,rfl⟩;rw[qa1];have:csk r c (k+1)=csk r c k++[(r+k/2,c+k%2)]:=by unfold csk;rw[Yb,ZE];rfl
    rw[this,qw8]
   ·rintro σ H3 ⟨hz,h1,h2,bt,v5,rfl⟩
    replace h1:H3 k1=some (.dT (dD cK (insL (cs (r,c)) C))):=h1
    refine⟨_,rfl,_,rfl,(by show 3<=sizeLine;decide),λa1 ha1=>⟨_,rfl,_,_,rfl,rfl,_,rfl,(by show 3<=sizeLine;decide),λa2 ha2=>⟨_,rfl,_,rfl,(by show 3<=sizeLine;decide),λa3 ha3=>⟨_,rfl,_,rfl,_,_,rfl,rfl,(by show 3<=sizeLine;decide),λa4 ha4=>⟨(by show 4<=sizeLine;decide),λl hl=>⟨l,rfl,⟨_,SqL.of qa1⟩,?_⟩⟩⟩⟩⟩⟩;have ei:∀x:Nat,V.int ((x:Int)+1)=.int ((x+1:Nat):Int):=λx=>rfl;rw[ei,ei] at *;have hy:∀(j:Nat)(x:V),[V.ref a1,.ref a2,.ref a3,.ref a4][j]?=some x->∃t y,x=.ref t/\(sdL (r,c))[j]?=some y/\upd (upd (upd (upd (upd H3 a1 (.tup [.str "-",.int (r:Nat),.int (c:Nat)])) a2 (.tup [.str "-",.int ((r+1:Nat):Int),.int (c:Nat)])) a3 (.tup [.str "|",.int (r:Nat),.int (c:Nat)])) a4 (.tup [.str "|",.int (r:Nat),.int ((c+1:Nat):Int)])) l (.lst [.ref a1,.ref a2,.ref a3,.ref a4]) t=some (.tup ((sK y).map kV)):=λj x hj=>by
     match j,hj with
     |0,hj=>cases hj;exact⟨a1,_,rfl,rfl,qb4 (qb4 (qb4 (qb4 qa1 ha2) ha3) ha4) hl⟩
     |1,hj=>cases hj;exact⟨a2,_,rfl,rfl,qb4 (qb4 (qb4 qa1 ha3) ha4) hl⟩
     |2,hj=>cases hj;exact⟨a3,_,rfl,rfl,qb4 (qb4 qa1 ha4) hl⟩
     |3,hj=>cases hj;exact⟨a4,_,rfl,rfl,qb4 qa1 hl⟩
     |j+4,hj=>cases hj
    have SX:Same H3 (upd (upd (upd (upd (upd H3 a1 (.tup [.str "-",.int (r:Nat),.int (c:Nat)])) a2 (.tup [.str "-",.int ((r+1:Nat):Int),.int (c:Nat)])) a3 (.tup [.str "|",.int (r:Nat),.int (c:Nat)])) a4 (.tup [.str "|",.int (r:Nat),.int ((c+1:Nat):Int)])) l (.lst [.ref a1,.ref a2,.ref a3,.ref a4])):=(qb0 ha1).trans ((qb0 ha2).trans ((qb0 ha3).trans ((qb0 ha4).trans (qb0 hl))));have hlX:upd (upd (upd (upd (upd H3 a1 (.tup [.str "-",.int (r:Nat),.int (c:Nat)])) a2 (.tup [.str "-",.int ((r+1:Nat):Int),.int (c:Nat)])) a3 (.tup [.str "|",.int (r:Nat),.int (c:Nat)])) a4 (.tup [.str "|",.int (r:Nat),.int ((c+1:Nat):Int)])) l (.lst [.ref a1,.ref a2,.ref a3,.ref a4]) l=some (.lst [.ref a1,.ref a2,.ref a3,.ref a4]):=qa1;generalize upd (upd (upd (upd (upd H3 a1 (.tup [.str "-",.int (r:Nat),.int (c:Nat)])) a2 (.tup [.str "-",.int ((r+1:Nat):Int),.int (c:Nat)])) a3 (.tup [.str "|",.int (r:Nat),.int (c:Nat)])) a4 (.tup [.str "|",.int (r:Nat),.int ((c+1:Nat):Int)])) l (.lst [.ref a1,.ref a2,.ref a3,.ref a4])=HX at hy SX hlX ⊢;have h2X:=SX _ _ h2;have nl:l≠k2:=λz=>by rw[z,h2X] at hlX;cases hlX
    refine qz0 (K:=K) (a:=l) (xs:=[.ref a1,.ref a2,.ref a3,.ref a4]) (λj σ H4=>But k2 HX H4/\H4 k2=some (.dT (dD sK (insL ((sdL (r,c)).take j) M)))/\∃v6,σ=[some (.ref d),some (.ref k1),some (.ref k2),some (.int (r:Nat)),some (.int (c:Nat)),v5,v6])
     ⟨But.refl _ _,h2X,v6,rfl⟩ (λj σ H4 _ h=>SqL.of (h.1 _ _ hlX nl)) ?_ ?_
    ·rintro j x σ H4 hj ⟨b4,h4,v6,rfl⟩;obtain⟨t,y,rfl,hy1,hy2⟩:=hy j x hj;have nt:t≠k2:=λz=>by rw[z,h2X] at hy2;cases hy2
     have j2:=qo4 ((sdL (r,c)).take j) M;have hl4:((sdL (r,c)).take j).length<=4:=by rw[YO];exact Nat.min_le_right _ _
     refine⟨_,rfl,_,rfl,k2,_,rfl,DPut.t (k:=sK y) h4 (b4 _ _ hy2 nt) (by rw[qo3];exact qi0 (by lia)),?_⟩;rw[q42 xt6];refine⟨λx u e n=>by rw[qa7 n];exact b4 _ _ e n,?_,_,rfl⟩;rw[qa1];obtain⟨jK,ey⟩:=gS_ hy1;rw[Z7 jK,ey,qw8]
    ·rintro σ H4 ⟨b4,h4,v6,rfl⟩;refine⟨b4 _ _ (SX _ _ hz) n2,b4 _ _ (SX _ _ h1) n12,h4,λx u e n=>b4 _ _ (SX _ _ (bt x u e n)) (qa4 e hk2'),_,_,_,_,rfl⟩
  ·rintro σ H2 ⟨hz,h1,h2,bt,v3,v4,v5,v6,rfl⟩;rw[qo3,YS] at h1 h2;refine⟨_,rfl,k1,_,rfl,.inl h1,_,rfl,k2,_,rfl,.inl h2,_,_,rfl,rfl,_,rfl,d,_,rfl,.inr ⟨o,hz⟩,_,_,rfl,rfl,?_⟩;rw[qo3,qo3,qo3];exact q H2 bt
abbrev nTd:List Str:=["_law_by", "_law_there"]
theorem scTd:FnScope nTd nTd (qa5 q81):=qd4
inductive spTdW_(vs:List V)(H:Hp)(Q:VK):Prop
 |mk(sd:Bool)(d:Addr)(S:List (Nat×Nat))(e0:vs=[.str (wayS sd),.ref d])(e1:H d=some (.dT (dD cK S)))(e2:S.length<=1000)(e3:∀H',But d H H'->Q (.int (byW sd S)) H')
def xt7:Sp:=λvs H Q _=>spTdW_ vs H Q
theorem xy5{f fS fC:Addr}{fd fdS fdC:FuncData}(F:Fun K "_law_told" "_law_told" q81 f fd)(hS:mg "_law_by_sides" = some (.ref fS))(FS:Fun K "_law_by_sides" "_law_by_sides" qs5 fS fdS)(bS:Binds K fdS ["_law_there"] [])(GS:FnOk P w K mg base CX0 1 fS fdS ["_law_there"] spBs)
  (hC:mg "_law_by_corners" = some (.ref fC)) (FC:Fun K "_law_by_corners" "_law_by_corners" qk2 fC fdC) (bC:Binds K fdC ["_law_there"] []) (GC:FnOk P w K mg base CX0 1 fC fdC ["_law_there"] spBc):FnOk P w K mg base CX0 2 f fd nTd xt7:=by
 refine F.ok scTd (λvs H Q E h=>?_) (λcdv A outer s H vs Q E hr h=>?_)
 ·obtain⟨sd,d,S,rfl,_⟩:=h
  rfl
 ·obtain⟨sd,d,S,rfl,hd,hl,q⟩:=h;refine seqE ⟨_,⟨qe5 (qb8 qP7 (pv 0) qq7 (by first|exact qb6 _|rfl|decide|with_unfolding_all rfl)) (qa9 (qb1 (PEb.go ⟨pcN GS hr hS FS.kp bS (qa0 (pv 1) qa2)⟩))) qb7⟩,?_⟩;refine qg2 ⟨_,⟨qb1 (PEb.go ⟨pcN GC hr hC FC.kp bC (qa0 (pv 1) qa2)⟩)⟩,?_⟩;refine⟨_,rfl,rfl,_,rfl,?_⟩;cases sd with
  |true=>
   rw[show decide (V.str (wayS true)=V.str "sides")=true by decide +kernel];exact iteT ⟨_,rfl,d,S,rfl,hd,q⟩
  |false=>
   rw[show decide (V.str (wayS false)=V.str "sides")=false by decide +kernel];exact iteF ⟨_,rfl,d,S,rfl,hd,hl,q⟩
end
end Pr
namespace Qf
open Tr
theorem q48{s:Nat}{G:Nat->Nat->Int}(hs:0<s)(e:∀i k,G (s+i) (s+k)=G i k):∀d,Rr ((d+1)*s) G=(d+1)*Rr s G-d*G (s-1) s
 |0=>by rw[Vi];grind
 |d+1=>by
  have h2:(d+1+1)*s=s+(d+1)*s:=by rw[WH (d+1)];lia
  rw[h2,qh9 s G hs _ (Vl (by lia) hs),qk4 (F:=G) λi k _ _=>e i k,q48 hs e d];push_cast
  grind
theorem xe8{s:Nat}{G:Nat->Nat->Int}(hs:0<s)(e:∀i k,G (s+i) (s+k)=G i k):∀d,G ((d+1)*s-1) ((d+1)*s-1)=G (s-1) (s-1)
 |0=>by rw[Vi]
 |d+1=>by
  have h2:(d+1+1)*s-1=s+((d+1)*s-1):=by
   rw[WH (d+1)];have:=Vl (show 0<d+1 by lia) hs;lia
  rw[h2,e,xe8 hs e d]
def Rs(sd:Bool)(h:Nat)(G:Nat->Nat->Int):Int:=if sd then Rr h G else Rp h G
def rs(sd:Bool)(w:Nat)(z:Nat->Bool):Int:=Rs sd w λj l=>bi (z j&&z l)
def gS(sd:Bool)(h w:Nat)(g:Nat->Nat->Bool):Int:=Rs sd h λi k=>rs sd w λj=>g i j&&g k j
def Rc(sd:Bool)(s:Nat)(G:Nat->Nat->Int):Int:=if sd then 0 else 2-G 0 0-G (s-1) (s-1)
theorem xe9(sd:Bool){s:Nat}{G:Nat->Nat->Int}(hs:0<s)(e:∀i k,G (s+i) (s+k)=G i k)(d:Nat):Rs sd ((d+1)*s) G=(d+1)*Rr s G-d*G (s-1) s+Rc sd s G:=by
 unfold Rs Rc;cases sd with
 |true=>rw[Zm rfl,Zm rfl,q48 hs e];lia
 |false=>
  rw[Zh (by decide),Zh (by decide)];unfold Rp;rw[q48 hs e,xe8 hs e];lia
theorem xt8{sd:Bool}{s:Nat}{G F E:Nat->Nat->Int}{a:Int}(e:∀i k,E i k=F i k+a*G i k):Rc sd s E=Rc sd s F-a*(if sd then 0 else G 0 0+G (s-1) (s-1)):=by
 unfold Rc;cases sd with
 |true=>rw[Zm rfl,Zm rfl,Zm rfl];lia
 |false=>rw[Zh (by decide),Zh (by decide),Zh (by decide),e,e];grind
theorem q49(sd:Bool)(h w:Nat)(f:Nat->Nat->Bool):qh2 sd h w f=if sd then gS sd h w f else 1-gS sd h w λi j=>!f i j:=by
 unfold qh2 gS rs Rs;cases sd<;>rfl
theorem xf0(sd:Bool){s:Nat}{g:Nat->Nat->Bool}(hs:0<s)(hr:∀i j,g (s+i) j=g i j)(hc:∀i j,g i (s+j)=g i j):∃α β γ δ:Int,∀d r:Nat,gS sd ((d+1)*s) ((r+1)*s) g=α+β*d+γ*r+δ*(d*r):=by
 let z:Nat->Nat->Nat->Bool:=λi k j=>g i j&&g k j
 let A:Nat->Nat->Int:=λi k=>ru s (z i k)+Rc sd s λj l=>bi (z i k j&&z i k l)
 let B:Nat->Nat->Int:=λi k=>ru s (z i k)-bi (z i k (s-1)&&z i k s)
 have inner:∀(r i k:Nat),rs sd ((r+1)*s) (z i k)=A i k+r*B i k:=λr i k=>by
  unfold rs;rw[xe9 sd hs (λj l=>by show bi ((g i (s+j)&&g k (s+j))&&(g i (s+l)&&g k (s+l)))=_;rw[hc,hc,hc,hc]) r];show (r+1)*ru s (z i k)-r*bi (z i k (s-1)&&z i k s)+_=ru s (z i k)+_+r*(ru s (z i k)-bi (z i k (s-1)&&z i k s))
  grind
 have zp:∀i k,z (s+i) (s+k)=z i k:=λi k=>funext λj=>by show (g (s+i) j&&g (s+k) j)=_;rw[hr,hr]
 have main:∀d r:Nat,gS sd ((d+1)*s) ((r+1)*s) g=(d+1)*(Rr s A+r*Rr s B)-d*(A (s-1) s+r*B (s-1) s)+(Rc sd s A-r*(if sd then 0 else B 0 0+B (s-1) (s-1))):=λd r=>by
  unfold gS;rw[xe9 sd hs (λi k=>by rw[show (λj=>g (s+i) j&&g (s+k) j)=z (s+i) (s+k) from rfl,zp]) d];rw[q33 (E:=λi k=>rs sd ((r+1)*s) (z i k)) (F:=A) (G:=B) (a:=1) (b:=r) (λi k=>by rw[inner];lia) s,xt8 (E:=λi k=>rs sd ((r+1)*s) (z i k)) (F:=A) (G:=B) (a:=r) (λi k=>inner r i k)];rw[show rs sd ((r+1)*s) (λj=>g (s-1) j&&g s j)=A (s-1) s+r*B (s-1) s from inner r (s-1) s];rw[Vj]
 refine⟨Rr s A+Rc sd s A,Rr s A-A (s-1) s,Rr s B-(if sd then 0 else B 0 0+B (s-1) (s-1)),Rr s B-B (s-1) s,λd r=>?_⟩;rw[main];generalize (if sd=true then 0 else B 0 0+B (s-1) (s-1))=X
 grind
theorem xb6(sd:Bool){s:Nat}{f:Nat->Nat->Bool}(hs:0<s)(hr:∀i j,f (s+i) j=f i j)(hc:∀i j,f i (s+j)=f i j):∃α β γ δ:Int,∀d r:Nat,qh2 sd ((d+1)*s) ((r+1)*s) f=α+β*d+γ*r+δ*(d*r):=by
 cases sd with
 |true=>
  obtain⟨α,β,γ,δ,h⟩:=xf0 true hs hr hc;exact⟨α,β,γ,δ,λd r=>by rw[q49,Zm rfl,h]⟩
 |false=>
  obtain⟨α,β,γ,δ,h⟩:=xf0 false (g:=λi j=>!f i j) hs (λi j=>by rw[hr]) (λi j=>by rw[hc]);exact⟨1-α,-β,-γ,-δ,λd r=>by rw[q49,Zh (by decide),h];grind⟩
def ofRows(F:Nat->Nat->Int)(d r:Int):Int:=F 1 1*d*r+(F 1 2-2*F 1 1)*d*(r-1)+(F 2 1-2*F 1 1)*(d-1)*r+(F 2 2-4*F 1 1-2*(F 1 2-2*F 1 1)-2*(F 2 1-2*F 1 1))*(d-1)*(r-1)
theorem q50(sd:Bool){s:Nat}{f:Nat->Nat->Bool}(hs:0<s)(hr:∀i j,f (s+i) j=f i j)(hc:∀i j,f i (s+j)=f i j){d r:Nat}(hd:0<d)(h0:0<r):ofRows (λd r=>qh2 sd (d*s) (r*s) f) d r=qh2 sd (d*s) (r*s) f:=by
 obtain⟨α,β,γ,δ,h⟩:=xb6 sd hs hr hc;obtain⟨a,rfl⟩:∃a,d=a+1:=⟨d-1,by lia⟩;obtain⟨b,rfl⟩:∃b,r=b+1:=⟨r-1,by lia⟩;unfold ofRows;have h11:=h 0 0;have h12:=h 0 1;have h21:=h 1 0;have h22:=h 1 1;dsimp only;rw[show (2:Nat)=1+1 from rfl,show (1:Nat)*s=(0+1)*s from rfl];rw[h11,h12,h21,h22,h];push_cast
 grind
theorem qB9(p:Nat)(G:Nat->Nat->Int)(hp:0<p){q:Nat}(hq:0<q):Rp (p+q) G=Rp p G+Rp q (λi k=>G (p+i) (p+k))-2+G (p-1) (p-1)+G p p-G (p-1) p:=by
 unfold Rp;rw[qh9 p G hp q hq];show _=2+Rr p G-G 0 0-G (p-1) (p-1)+(2+(Rr q λi k=>G (p+i) (p+k))-G p p-G (p+(q-1)) (p+(q-1)))-2+G (p-1) (p-1)+G p p-G (p-1) p;rw[show p+(q-1)=p+q-1 by lia];lia
theorem qw9(p:Nat)(z:Nat->Bool)(hp:0<p){q:Nat}(hq:0<q)(a b:Nat->Bool)(ha:∀j,j<p->z j=a j)(hb:∀j,j<q->z (p+j)=b j):rp (p+q) z=rp p a+rp q b-2+bi (a (p-1))+bi (b 0)-bi (a (p-1)&&b 0):=by
 have h0:=hb 0 hq;rw[Yk] at h0;have h1:=ha (p-1) (by lia);have e1:rp p z=rp p a:=qf5 hp ha;have e2:(Rp q λi k=>bi (z (p+i)&&z (p+k)))=rp q b:=qf5 hq hb;have e:=qB9 p (λj l=>bi (z j&&z l)) hp hq;unfold rp at e1 ⊢;rw[e,e1,e2];rw[ql7,ql7,h0,h1]
 rfl
theorem xl9{w:Nat}(h:0<w):rp w (λ_=>true)=1:=by
 unfold rp Rp;rw[show (Rr w λj l=>bi (true&&true))=1 from qB5 1 h]
 rfl
theorem q51(p:Nat)(z a:Nat->Bool)(hp:0<p)(ha:∀j,j<p->z j=a j)(hb:∀j,j<p->z (p+j)=true):rp (p+p) z=rp p a:=by
 rw[qw9 p z hp hp a (λ_=>true) ha hb,xl9 hp,Xa,xx8];lia
def brd(t:Tr):Nat->Tr
 |0=>t
 |k+1=>mk (brd t k) (brd t k) (brd t k) (brd t k)
theorem qC0{t:Tr}(h:t=.z\/t=.o):mk t t t t=t:=by
 rcases h with rfl|rfl<;>rfl
theorem qK5{t:Tr}(h:¬(t=.z\/t=.o)):mk t t t t=.nd t t t t:=by
 unfold mk;rw[Zh λz=>h (.inl z.1),Zh λz=>h (.inr z.1)]
theorem xb7{m:Nat}(t:Tr)(i j:Nat):cellT (m+1) (mk t t t t) i j=cellT m t i j:=by
 show cellT m (qr _ _) i j=_;have hk:2*(i/2^m%2)+j/2^m%2<4:=by lia
 rw[xj4 hk];generalize 2*(i/2^m%2)+j/2^m%2=k at hk
 match k,hk with
 |0,_|1,_|2,_|3,_=>rfl
theorem qC1{n:Nat}(t:Tr)(i j:Nat):∀k,cellT (n+k) (brd t k) i j=cellT n t i j
 |0=>rfl
 |k+1=>(xb7 (m:=n+k) (brd t k) i j).trans (qC1 t i j k)
theorem qj7{n:Nat}{t:Tr}(h:dep t<=n):∀k,dep (brd t k)<=n+k
 |0=>h
 |k+1=>qN6 (qj7 h k) (qj7 h k) (qj7 h k) (qj7 h k)
theorem qH4{m:Nat}{sd:Bool}{t:Tr}(h:dep t<=m):(if sd then bal t else 1-bal (arT t))=qh2 sd (2^m) (2^m) (cellT m t):=by
 unfold qh2;cases sd with
 |true=>rw[Zm rfl,Zm rfl];exact qy6 m t h
 |false=>rw[Zh (by decide),Zh (by decide),xl3 h]
theorem qt0{m:Nat}(t:Tr)(i j:Nat):cellT m t (2^m+i) j=cellT m t i j/\cellT m t i (2^m+j)=cellT m t i j:=by
 have h1:=qn5 m t 1 0 i j;have h2:=qn5 m t 0 1 i j;simp only[Nat.mul_one,Nat.mul_zero,Nat.zero_add] at h1 h2;exact⟨h1,h2⟩
theorem qS6{p:Nat}{sd:Bool}{f g:Nat->Nat->Bool}(hp:0<p)(hr:∀i j,f (p+i) j=f i j)(hc:∀i j,f i (p+j)=f i j)(hg:∀i j,i<p+p->j<p+p->g i j=(f i j&&!(decide (p<=i)&&decide (p<=j)))) :
  qh2 sd (p+p) (p+p) g=qh2 sd p (p+p) f+qh2 sd (p+p) p f-qh2 sd p p f-(if sd then 0 else bi (!f (p-1) (p-1)&&(f (p-1) 0&&f 0 (p-1)))):=by
 have top:∀i j,i<p->j<p+p->g i j=f i j:=λi j hi hj=>by
  rw[hg i j (by lia) hj,Zp (show ¬p<=i by lia),Wd,YU,Xa]
 have botL:∀i j,i<p->j<p->g (p+i) j=f i j:=λi j hi hj=>by
  rw[hg _ _ (by lia) (by lia),Zp (show ¬p<=j by lia),Yh,YU,Xa,hr]
 have botR:∀i j,i<p->j<p->g (p+i) (p+j)=false:=λi j hi hj=>by
  rw[hg _ _ (by lia) (by lia),Zq (show p<=p+i by lia),Zq (show p<=p+j by lia)];exact Yh _
 have fp:∀j,f p j=f 0 j:=λj=>by have:=hr 0 j;rwa [Yk] at this
 have gpL:∀j,j<p->g p j=f 0 j:=λj hj=>by have:=botL 0 j hp hj;rwa [Yk] at this
 have gpR:∀j,j<p->g p (p+j)=false:=λj hj=>by have:=botR 0 j hp hj;rwa [Yk] at this
 unfold qh2;cases sd with
 |true=>
  rw[Zm rfl,Zm rfl,Zm rfl,Zm rfl,Zm rfl,qK1 g hp hp,qe0 (f:=g) top,qK0 (λi j=>g (p+i) j) hp hp,qe0 (f:=λi j=>g (p+i) j) botL,qe0 (f:=λi j=>g (p+i) (p+j)) (g:=λ_ _=>false) botR,qO2];rw[qd0 (w:=p) (z:=λ_=>false) λi hi=>?_,qn8]
  ·rw[qn9 p (λj=>g (p-1) j&&g p j) hp hp (λj=>f (p-1) j&&f 0 j) (λ_=>false) (λj hj=>?_) λj hj=>?_,qn8,Yh]
   ·rw[qK1 f hp hp,qe0 (f:=λi j=>f (p+i) j) λi j _ _=>hr i j,qd0 (y:=λj=>f (p-1) j&&f p j) (z:=λj=>f (p-1) j&&f 0 j) λj _=>by rw[fp]];show _-(_+0-0)=_;lia
   ·rw[top _ _ (by lia) (by lia),gpL j hj]
   ·rw[gpR j hj,Yh]
  ·have:=botR i 0 hi hp;rw[Yk] at this;rw[this,Yh]
 |false=>
  rw[Zh (by decide),Zh (by decide),Zh (by decide),Zh (by decide),Zh (by decide)];have hpp:0<p+p:=by lia
  let x:Nat->Bool:=λj=>!f (p-1) j
  let y:Nat->Bool:=λj=>!f 0 j
  have e1:gP (p+p) (p+p) (λi j=>!g i j)=gP p (p+p) (λi j=>!f i j)+gP p p (λi j=>!f i j)-2+rp (p+p) x+rp p y-rp (p+p) (λj=>!g (p-1) j&&!g p j):=by
   have s:=qB9 p (λi k=>rp (p+p) λj=>!g i j&&!g k j) hp hp;have t1:(Rp p λi k=>rp (p+p) λj=>!g i j&&!g k j)=gP p (p+p) λi j=>!f i j:=qo2 hp λi k hi hk=>qf5 hpp λj hj=>by rw[top i j hi hj,top k j hk hj]
   have t2:(Rp p λi k=>rp (p+p) λj=>!g (p+i) j&&!g (p+k) j)=gP p p λi j=>!f i j:=qo2 hp λi k hi hk=>q51 p _ _ hp (λj hj=>by rw[botL i j hi hj,botL k j hk hj]) λj hj=>by rw[botR i j hi hj,botR k j hk hj];rfl
   have t3:(rp (p+p) λj=>!g (p-1) j&&!g (p-1) j)=rp (p+p) x:=qf5 hpp λj hj=>by rw[top _ j (by lia) hj,Y7]
   have t4:(rp (p+p) λj=>!g p j&&!g p j)=rp p y:=q51 p _ _ hp (λj hj=>by rw[gpL j hj,Y7]) λj hj=>by rw[gpR j hj];rfl
   unfold gP at t1 t2 ⊢;rw[s,t1,t2];dsimp only;rw[t3,t4]
  have e2:gP (p+p) p (λi j=>!f i j)=gP p p (λi j=>!f i j)+gP p p (λi j=>!f i j)-2+rp p x+rp p y-rp p λj=>x j&&y j:=by
   have s:=qB9 p (λi k=>rp p λj=>!f i j&&!f k j) hp hp;have t2:(Rp p λi k=>rp p λj=>!f (p+i) j&&!f (p+k) j)=Rp p λi k=>rp p λj=>!f i j&&!f k j:=qo2 hp λi k _ _=>qf5 hp λj _=>by rw[hr,hr]
   have t3:(rp p λj=>!f (p-1) j&&!f (p-1) j)=rp p x:=qf5 hp λj _=>Y7 _;have t4:(rp p λj=>!f p j&&!f p j)=rp p y:=qf5 hp λj _=>by rw[fp,Y7]
   have t5:(rp p λj=>!f (p-1) j&&!f p j)=rp p λj=>x j&&y j:=qf5 hp λj _=>by rw[fp]
   unfold gP;rw[s,t2];dsimp only;rw[t3,t4,t5]
  have hx:∀j,x (p+j)=x j:=λj=>by show (!f (p-1) (p+j))=_;rw[hc]
  have e3:rp (p+p) x=rp p x+rp p x-2+bi (x (p-1))+bi (x 0)-bi (x (p-1)&&x 0):=qw9 p x hp hp x x (λ_ _=>rfl) λj _=>hx j;have e4:(rp (p+p) λj=>!g (p-1) j&&!g p j)=(rp p λj=>x j&&y j)+rp p x-2+bi (x (p-1)&&y (p-1))+bi (x 0)-bi ((x (p-1)&&y (p-1))&&x 0):=qw9 p (λj=>!g (p-1) j&&!g p j) hp hp (λj=>x j&&y j) x (λj hj=>by
    show (!g (p-1) j&&!g p j)=(x j&&y j);rw[top _ j (by lia) (by lia),gpL j hj]) λj hj=>by
    show (!g (p-1) (p+j)&&!g p (p+j))=x j;rw[top _ _ (by lia) (by lia),gpR j hj,hc,YU,Xa]
  rw[e1,e2,e3,e4];have eb:bi (!f (p-1) (p-1)&&(f (p-1) 0&&f 0 (p-1)))=bi (x (p-1))-bi (x (p-1)&&x 0)-bi (x (p-1)&&y (p-1))+bi ((x (p-1)&&y (p-1))&&x 0):=by
   show _=bi (!f (p-1) (p-1))-bi (!f (p-1) (p-1)&&!f (p-1) 0)-bi (!f (p-1) (p-1)&&!f 0 (p-1))+bi ((!f (p-1) (p-1)&&!f 0 (p-1))&&!f (p-1) 0);cases f (p-1) (p-1)<;>cases f (p-1) 0<;>cases f 0 (p-1)<;>rfl
  rw[eb];lia
end Qf
namespace Qf
open L2
def pr(x:Nat×Nat):Row:=[x.1,x.2]
def tmC(s r:Nat)(S:List (Nat×Nat))(k:Nat):List (Nat×Nat):=S.map λx=>(x.1+s*(k/r),x.2+s*(k%r))
def tm(s:Nat)(S:List (Nat×Nat))(r K:Nat):List (Nat×Nat):=folS (tmC s r S) (List.range K) []
theorem xy6(s:Nat)(S:List (Nat×Nat))(r K:Nat):(tm s S r K).Nodup:=qB7 YT
theorem xf1(s:Nat)(S:List (Nat×Nat))(r K:Nat):(tm s S r K).length<=S.length*K:=by
 have:(tm s S r K).length<=([]:List (Nat×Nat)).length+S.length*(List.range K).length:=qs9 (f:=tmC s r S) (n:=S.length) (λ_=>Ze ..) (List.range K) [];rw[Y3] at this;simpa using this
theorem q52{s r d:Nat}{S:List (Nat×Nat)}(hr:0<r)(hS:∀x∈S,x.1<s/\x.2<s){i j:Nat}:(i,j)∈tm s S r (d*r)<->i<d*s/\j<r*s/\(i%s,j%s)∈S:=by
 unfold tm;rw[folS_mem];simp only[ZR,false_or];constructor
 ·rintro⟨k,hk,h⟩;rw[ZW] at hk;obtain⟨x,hx,e⟩:=ZF.mp h;have e1:x.1+s*(k/r)=i:=ZQ Prod.fst e;have e2:x.2+s*(k%r)=j:=ZQ Prod.snd e;obtain⟨h1,h2⟩:=hS x hx;have hkd:k/r<d:=(Xr hr).mpr hk;have hkr:=Y6 k hr;have m1:s*(k/r)+s<=s*d:=by rw[<- Vc];exact Nat.mul_le_mul_left s hkd
  have m2:s*(k%r)+s<=s*r:=by rw[<- Vc];exact Nat.mul_le_mul_left s hkr
  rw[Yd d,Yd r];refine⟨by lia,by lia,?_⟩;rw[<- e1,<- e2,XG,XG,Xf h1,Xf h2];exact hx
 ·rintro⟨hi,hj,hm⟩;have hs:0<s:=ZS (Zx _) (hS _ hm).1;have a1:i/s<d:=(Xr hs).mpr hi;have a2:j/s<r:=(Xr hs).mpr hj;refine⟨i/s*r+j/s,ZW.mpr ?_,ZF.mpr ⟨_,hm,?_⟩⟩
  ·have:i/s*r+r<=d*r:=by rw[<- WH];exact Nat.mul_le_mul_right r a1
   lia
  ·have k1:(i/s*r+j/s)/r=i/s:=by rw[Yd,WB hr,YQ a2,Yk]
   have k2:(i/s*r+j/s)%r=j/s:=by rw[Yd,Nat.mul_add_mod,Xf a2]
   rw[k1,k2];have b1:=Nat.mod_add_div i s;have b2:=Nat.mod_add_div j s;exact YJ b1 b2
theorem xm0{sd:Bool}{s r d:Nat}{S:List (Nat×Nat)}{f:Nat->Nat->Bool}(hs:0<s)(hd:0<d)(hr:0<r)(hS:∀x∈S,x.1<s/\x.2<s)(e:∀i j,f i j=true<->(i%s,j%s)∈S):byW sd (tm s S r (d*r))=qh2 sd (d*s) (r*s) f:=
 xb3 (Vl hd hs) (Vl hr hs) (xy6 s S r _) (λx hx=>⟨((q52 hr hS (i:=x.1) (j:=x.2)).mp hx).1,((q52 hr hS (i:=x.1) (j:=x.2)).mp hx).2.1⟩) λi j hi hj=>by
  rw[e,q52 hr hS];exact⟨λh=>⟨hi,hj,h⟩,λh=>h.2.2⟩
end Qf
namespace Pr
open PySem L2 Qf
section
variable{P:Program}{w:World}{K:PySem.W.Frag}{mg:Str->Option Value}{base:Heap}
abbrev nTm:List Str:=["_law_n", "_law_cells", "_law_down", "_law_right", "_law_side", "_law_found", "_law_k", "_law_r", "_law_c"]
abbrev nTm4:List Str:=["_law_n", "_law_cells", "_law_down", "_law_right"]
theorem scTm:FnScope nTm nTm4 (qa5 qM7):=qd4
inductive spTm_(vs:List V)(H:Hp)(Q:VK):Prop
 |mk(p:Addr)(n d r:Nat)(S:List (Nat×Nat))(e0:vs=[.int (n:Nat),.ref p,.int (d:Nat),.int (r:Nat)])(e1:RowsL H p (S.map pr))(e2:n<=12/\d<=2/\r<=2/\0<r)(e3:S.length<=16)(e4:∀H' D,Same H H'->H D=none->H' D=some (.dT (dD cK (tm (2^n) S r (d*r))))->Q (.ref D) H')
def spTm:Sp:=λvs H Q _=>spTm_ vs H Q
theorem xy7{f:Addr}{fd:FuncData}(F:Fun K "_law_times" "_law_times" qM7 f fd)(B:Blt mg):FnOk P w K mg base CX0 1 f fd nTm4 spTm:=by
 refine F.ok scTm (λvs H Q E h=>?_) (λcdv A outer s H vs Q E hr h=>?_)
 ·obtain⟨p,n,d,r,S,rfl,_⟩:=h
  rfl
 ·obtain⟨p,n,d,r,S,rfl,hp,⟨hn,hd,h0,h1⟩,hl,q⟩:=h;have un:=hr.units;have hu:_+1<cLine:=ZS (Xe (show 1<=64 by decide) _) un;refine seqE ⟨_,⟨psN 4 scTm.nd (qa6 qK8 qa3 (pv 0))⟩,?_⟩;refine seqE ⟨_,⟨psN 5 scTm.nd qr9⟩,?_⟩;refine seqE ⟨_,⟨qh0 Z0 rfl (qi5 (by rfl) B.range (qa0 (qa6 qd6 (pv 2) (pv 3)) qa2)) (pgN 6 scTm.nd)
   (StB.go (.one ⟨qh0 Z0 rfl (qo9 (pv 1)) (qm0 rfl (qb9 (pgN 7 scTm.nd) (qb9 (pgN 8 scTm.nd) qh3)))
    (StB.go (.one ⟨qp2 hu (pv 5) (PEb.go ⟨qc1 (qa0 (qa6 qb5 (pv 7) (qa6 qd6 (pv 4) (qa6 qf8 (pv 6) (pv 3)))) (qa0 (qa6 qb5 (pv 8) (qa6 qd6 (pv 4) (qa6 qr2 (pv 6) (pv 3)))) qa2))⟩) qk6 (by rfl)⟩))⟩))⟩,?_⟩
  refine qg2 ⟨_,⟨qb1 (pv 5)⟩,?_⟩;have hs1:2^n<=2^12:=XB (by decide) hn;refine⟨_,rfl,_,_,rfl,rfl,⟨by lia,by lia,by decide⟩,?_⟩;rw[qB2];intro D hD;have hdr:d*r<=2*2:=Wj hd h0;obtain⟨bs,hb,j2,j6⟩:=id hp;rw[Ze] at j2;have npD:p≠D:=qa4 hb hD;have ev:V.int ((d:Int)*(r:Int))=.int ((d*r:Nat):Int):=by rw[XY]
  refine⟨_,rfl,_,rfl,_,_,rfl,rfl,.inl ⟨by lia,by lia⟩,?_⟩;rw[ev];refine⟨((d*r:Nat):Int),rfl,by lia,by lia,?_⟩;rw[YG];refine qm1 (λk σ H2=>But D H H2/\H2 D=some (.dT (dD cK (tm (2^n) S r k)))/\∃v6 v7 v8,σ=[some (.int (n:Nat)),some (.ref p),some (.int (d:Nat)),some (.int (r:Nat)),some (.int ((2^n:Nat):Int)),some (.ref D),v6,v7,v8])
   ⟨But.of (qb0 hD),qa1,none,none,none,rfl⟩ ?_ ?_
  ·rintro k σ H2 hk ⟨b2,h2,v6,v7,v8,rfl⟩;have lC:=xf1 (2^n) S r k;have lk:S.length*k<=16*4:=Wj hl (by lia);rw[show V.int ((0:Int)+(k:Int))=.int (k:Nat) by congr 1;lia];have es:tm (2^n) S r (k+1)=insL (tmC (2^n) r S k) (tm (2^n) S r k):=by
    unfold tm folS;rw[Yb,Xw]
    rfl
   rw[es];generalize tm (2^n) S r k=C at h2 lC ⊢;have jQ:=b2 _ _ hb npD;refine⟨_,rfl,p,rfl,⟨_,SqL.of jQ⟩,qz0 (K:=K) (a:=p) (xs:=bs.map V.ref) (λj σ H3=>But D H H3/\H3 D=some (.dT (dD cK (insL (tmC (2^n) r (S.take j) k) C)))/\∃v7 v8,σ=[some (.int (n:Nat)),some (.ref p),some (.int (d:Nat)),some (.int (r:Nat)),some (.int ((2^n:Nat):Int)),some (.ref D),some (.int (k:Nat)),v7,v8])
    ⟨b2,h2,v7,v8,rfl⟩ (λj σ H3 _ h=>SqL.of (h.1 _ _ hb npD)) ?_ ?_⟩
   ·rintro j y σ H3 hj ⟨b3,h3,v7,v8,rfl⟩;rw[Zg] at hj;obtain⟨b,kP,rfl⟩:=Zl.mp hj;have hjS:j<S.length:=by rw[<- j2];exact (gS_ kP).1
    have hx:S[j]?=some (S[j]'hjS):=Zd hjS;have kO:=j6 j b (pr S[j]) kP (by rw[Zg,hx];rfl);have nbD:b≠D:=qa4 kO hD;have kW:=b3 _ _ kO nbD;generalize S[j]=x at hx kO kW;obtain⟨x1,x2⟩:=x;have lI:=qo4 (tmC (2^n) r (S.take j) k) C;have lT:(tmC (2^n) r (S.take j) k).length<=16:=by unfold tmC;rw[Ze,YO];lia
    refine⟨b,_,rfl,SqT.of kW,rfl,_,_,rfl,_,_,rfl,rfl,?_⟩;refine qN8 (σ':=[some (.int (n:Nat)),some (.ref p),some (.int (d:Nat)),some (.int (r:Nat)),some (.int ((2^n:Nat):Int)),some (.ref D),some (.int (k:Nat)),some (.int (x1:Nat)),some (.int (x2:Nat))]) rfl ?_;have kM:∀z:Int,CMul ((2^n:Nat):Int) z:=λz=>.inl ⟨Int.lt_of_lt_of_le (by decide) (WP (2^n)),Int.lt_of_le_of_lt (Int.ofNat_le.mpr hs1) (by decide)⟩;refine⟨_,rfl,_,rfl,_,rfl,_,rfl,_,rfl,_,_,rfl,rfl,⟨by lia,by lia⟩,_,_,rfl,rfl,kM _,_,_,rfl,rfl,_,rfl,_,rfl,_,rfl,_,rfl,_,_,rfl,rfl,by lia,_,_,rfl,rfl,kM _,_,_,rfl,rfl,(by show 2<=sizeLine;decide),λt ht=>?_⟩;have e1:V.int ((x1:Int)+((2^n:Nat):Int)*((k:Int)/(r:Int)))=.int ((x1+2^n*(k/r):Nat):Int):=by push_cast;rfl
    have e2:V.int ((x2:Int)+((2^n:Nat):Int)*((k:Int)%(r:Int)))=.int ((x2+2^n*(k%r):Nat):Int):=by push_cast;rfl
    rw[e1,e2] at *;have nDt:D≠t:=qa4 h3 ht;refine⟨D,_,rfl,DPut.t (k:=cK (x1+2^n*(k/r),x2+2^n*(k%r))) (qb4 h3 ht) qa1 (by rw[qo3];exact qi0 (by lia)),?_⟩;rw[q42 qH1];refine⟨λy u e nn=>by rw[qa7 nn];exact qb4 (b3 _ _ e nn) ht,?_,_,_,rfl⟩;rw[qa1];obtain⟨jK,ey⟩:=gS_ hx;have:tmC (2^n) r (S.take (j+1)) k=tmC (2^n) r (S.take j) k++[(x1+2^n*(k/r),x2+2^n*(k%r))]:=by
     unfold tmC;rw[Z7 jK,ey,ZE]
     rfl
    rw[this,qw8]
   ·rintro σ H3 ⟨b3,h3,v7,v8,rfl⟩;rw[Ze,j2,YS] at h3;exact⟨b3,h3,_,_,_,rfl⟩
  ·rintro σ H2 ⟨b2,h2,v6,v7,v8,rfl⟩;exact⟨_,rfl,q H2 D (λx u e=>b2 _ _ e (qa4 e hD)) hD h2⟩
abbrev nOr:List Str:=["_law_by", "_law_n", "_law_cells", "_law_down", "_law_right", "_law_one", "_law_level", "_law_upright", "_law_point", "_law_found"]
abbrev nOr5:List Str:=["_law_by", "_law_n", "_law_cells", "_law_down", "_law_right"]
theorem scOr:FnScope nOr nOr5 (qa5 qA6):=qd4
inductive spOr_(vs:List V)(H:Hp)(Q:VK):Prop
 |mk(sd:Bool)(p:Addr)(n d r:Nat)(S:List (Nat×Nat))(e0:vs=[.str (wayS sd),.int (n:Nat),.ref p,.int (d:Nat),.int (r:Nat)])(e1:RowsL H p (S.map pr))(e2:n<=12/\d<=5000/\r<=5000)(e3:S.length<=16)(e4:∀H',Same H H'->Q (.int (ofRows (λd r=>byW sd (tm (2^n) S r (d*r))) d r)) H')
def spOr:Sp:=λvs H Q _=>spOr_ vs H Q
theorem qt1{H1 H2 H3:Hp}{D:Addr}(s:Same H1 H2)(b:But D H2 H3)(h:H1 D=none):Same H1 H3:=λx o e=>b _ _ (s _ _ e) (qa4 e h)
theorem xy8{f fT fM:Addr}{fd fdT fdM:FuncData}(F:Fun K "_law_of_rows" "_law_of_rows" qA6 f fd)(B:Blt mg)(hT:mg "_law_told" = some (.ref fT))(FT:Fun K "_law_told" "_law_told" q81 fT fdT)(bT:Binds K fdT nTd [])(GT:FnOk P w K mg base CX0 2 fT fdT nTd xt7)
  (hM:mg "_law_times" = some (.ref fM)) (FM:Fun K "_law_times" "_law_times" qM7 fM fdM) (bM:Binds K fdM nTm4 []):FnOk P w K mg base CX0 3 f fd nOr5 spOr:=by
 have GM:FnOk P w K mg base CX0 1 fM fdM nTm4 spTm:=xy7 FM B;refine F.ok scOr (λvs H Q E h=>?_) (λcdv A outer s H vs Q E hr h=>?_)
 ·obtain⟨sd,p,n,d,r,S,rfl,_⟩:=h
  rfl
 ·obtain⟨sd,p,n,d,r,S,rfl,hp,⟨hn,hd,h0⟩,hl,q⟩:=h;have j8:Room 1 _:=hr.mono (by decide);refine seqE ⟨_,⟨psN 5 scOr.nd (PEb.go ⟨pcN GT hr hT FT.kp bT (qa0 (pv 0) (qa0 (PEb.go ⟨pcN GM j8 hM FM.kp bM (Ars2.go (.cons ⟨pv 1⟩ (.cons ⟨pv 2⟩ (.cons qc7 (.cons qc7 .nil rfl) rfl) rfl) rfl))⟩) qa2))⟩)⟩,?_⟩;refine seqE ⟨_,⟨psN 6 scOr.nd (PEb.go ⟨qa6 qc9 (PEb.go ⟨pcN GT hr hT FT.kp bT (qa0 (pv 0) (qa0 (PEb.go ⟨pcN GM j8 hM FM.kp bM (Ars2.go (.cons ⟨pv 1⟩ (.cons ⟨pv 2⟩ (.cons qc7 (.cons qc7 .nil rfl) rfl) rfl) rfl))⟩) qa2))⟩) (qa6 qd6 qa3 (pv 5))⟩)⟩,?_⟩;refine seqE ⟨_,⟨psN 7 scOr.nd (PEb.go ⟨qa6 qc9 (PEb.go ⟨pcN GT hr hT FT.kp bT (qa0 (pv 0) (qa0 (PEb.go ⟨pcN GM j8 hM FM.kp bM (Ars2.go (.cons ⟨pv 1⟩ (.cons ⟨pv 2⟩ (.cons qc7 (.cons qc7 .nil rfl) rfl) rfl) rfl))⟩) qa2))⟩) (qa6 qd6 qa3 (pv 5))⟩)⟩,?_⟩;refine seqE ⟨_,⟨psN 8 scOr.nd (PEb.go ⟨qa6 qc9 (PEb.go ⟨qa6 qc9 (PEb.go ⟨qa6 qc9 (PEb.go ⟨pcN GT hr hT FT.kp bT (qa0 (pv 0) (qa0 (PEb.go ⟨pcN GM j8 hM FM.kp bM (Ars2.go (.cons ⟨pv 1⟩ (.cons ⟨pv 2⟩ (.cons qc7 (.cons qc7 .nil rfl) rfl) rfl) rfl))⟩) qa2))⟩) (qa6 qd6 qa3 (pv 5))⟩) (qa6 qd6 qa3 (pv 6))⟩) (qa6 qd6 qa3 (pv 7))⟩)⟩,?_⟩;refine seqE ⟨_,⟨psN 9 scOr.nd (PEb.go ⟨qa6 qb5 (PEb.go ⟨qa6 qd6 (qa6 qd6 (pv 5) (pv 3)) (pv 4)⟩) (PEb.go ⟨qa6 qd6 (qa6 qd6 (pv 6) (pv 3)) (qa6 qc9 (pv 4) qa3)⟩)⟩)⟩,?_⟩;refine seqE ⟨_,⟨psN 9 scOr.nd (PEb.go ⟨qa6 qb5 (pv 9) (PEb.go ⟨qa6 qd6 (qa6 qd6 (pv 7) (qa6 qc9 (pv 3) qa3)) (pv 4)⟩)⟩)⟩,?_⟩;refine qg2 ⟨_,⟨qb1 (PEb.go ⟨qa6 qb5 (pv 9) (PEb.go ⟨qa6 qd6 (qa6 qd6 (pv 8) (qa6 qc9 (pv 3) qa3)) (qa6 qc9 (pv 4) qa3)⟩)⟩)⟩,?_⟩;have len:∀{a b:Nat},a*b<=4->(tm (2^n) S b (a*b)).length<=1000:=λ{a b} h=>by
   have h1:=xf1 (2^n) S b (a*b);have h2:S.length*(a*b)<=16*4:=Wj hl h;lia
  have c2:∀z:Int,CMul 2 z:=λz=>.inl ⟨by decide,by decide⟩;have c4:∀z:Int,CMul 4 z:=λz=>.inl ⟨by decide,by decide⟩;have cd:∀z:Int,CMul z (d:Int):=λz=>.inr ⟨by lia,by lia⟩;have cr:∀z:Int,CMul z (r:Int):=λz=>.inr ⟨by lia,by lia⟩;have cd1:∀z:Int,CMul z ((d:Int)-1):=λz=>.inr ⟨by lia,by lia⟩;have cr1:∀z:Int,CMul z ((r:Int)-1):=λz=>.inr ⟨by lia,by lia⟩;refine⟨_,rfl,_,rfl,_,rfl,p,n,1,1,S,rfl,hp,⟨hn,by decide,by decide,by decide⟩,hl,λH1 D1 s1 hD1 h1=>⟨sd,D1,_,rfl,h1,len (by decide),λH2 b2=>?_⟩⟩;have S2:=qt1 s1 b2 hD1;refine⟨_,rfl,_,rfl,_,rfl,p,n,1,2,S,rfl,hp.same S2,⟨hn,by decide,by decide,by decide⟩,hl,λH3 D3 s3 hD3 h3=>⟨sd,D3,_,rfl,h3,len (by decide),λH4 b4=>?_⟩⟩;have S4:=S2.trans (qt1 s3 b4 hD3);refine⟨_,rfl,_,_,rfl,rfl,c2 _,_,_,rfl,rfl,?_⟩;refine⟨_,rfl,_,rfl,_,rfl,p,n,2,1,S,rfl,hp.same S4,⟨hn,by decide,by decide,by decide⟩,hl,λH5 D5 s5 hD5 h5=>⟨sd,D5,_,rfl,h5,len (by decide),λH6 b6=>?_⟩⟩;have S6:=S4.trans (qt1 s5 b6 hD5);refine⟨_,rfl,_,_,rfl,rfl,c2 _,_,_,rfl,rfl,?_⟩;refine⟨_,rfl,_,rfl,_,rfl,p,n,2,2,S,rfl,hp.same S6,⟨hn,by decide,by decide,by decide⟩,hl,λH7 D7 s7 hD7 h7=>⟨sd,D7,_,rfl,h7,len (by decide),λH8 b8=>?_⟩⟩;have S8:=S6.trans (qt1 s7 b8 hD7);refine⟨_,rfl,_,_,rfl,rfl,c4 _,_,_,rfl,rfl,_,rfl,_,_,rfl,rfl,c2 _,_,_,rfl,rfl,_,rfl,_,_,rfl,rfl,c2 _,_,_,rfl,rfl,?_⟩;have hq:=q H8 S8;unfold ofRows at hq;dsimp only at hq;generalize byW sd (tm (2^n) S 1 (1*1))=F11 at hq ⊢;generalize byW sd (tm (2^n) S 2 (1*2))=F12 at hq ⊢;generalize byW sd (tm (2^n) S 1 (2*1))=F21 at hq ⊢;generalize byW sd (tm (2^n) S 2 (2*2))=F22 at hq ⊢;refine⟨_,rfl,_,rfl,_,_,rfl,rfl,cd _,_,rfl,_,_,rfl,rfl,cr _,_,rfl,_,rfl,_,_,rfl,rfl,cd _,_,rfl,_,_,rfl,rfl,_,_,rfl,rfl,cr1 _,_,_,rfl,rfl,?_⟩;refine⟨_,rfl,_,rfl,_,rfl,_,_,rfl,rfl,_,_,rfl,rfl,cd1 _,_,rfl,_,_,rfl,rfl,cr _,_,_,rfl,rfl,?_⟩;refine⟨_,rfl,_,rfl,_,rfl,_,_,rfl,rfl,_,_,rfl,rfl,cd1 _,_,rfl,_,_,rfl,rfl,_,_,rfl,rfl,cr1 _,_,_,rfl,rfl,?_⟩;exact hq
end
end Pr
namespace Qf
open Tr
theorem kp0{t0 t1 t2 t3:Tr}{L L4:List Tr}(e4:L4=post t3 (post t2 (post t1 (post t0 L))))(z:[0,0,0,0]=[name L4 t0,name L4 t1,name L4 t2,name L4 t3].map λx:Nat=>(x:Int)):L4=L/\mk t0 t1 t2 t3=.z/\name L4 t0=0:=by
 simp only[Zz,Xj,Xn,and_true] at z;have g0:=qe6 (L:=L4) (t:=t0) (by lia);have g1:=qe6 (L:=L4) (t:=t1) (by lia);have g2:=qe6 (L:=L4) (t:=t2) (by lia);have g3:=qe6 (L:=L4) (t:=t3) (by lia);subst g0 g1 g2 g3;exact⟨e4,rfl,rfl⟩
theorem kp1{t0 t1 t2 t3:Tr}{L L4:List Tr}(e4:L4=post t3 (post t2 (post t1 (post t0 L))))(z:[1,1,1,1]=[name L4 t0,name L4 t1,name L4 t2,name L4 t3].map λx:Nat=>(x:Int)):L4=L/\mk t0 t1 t2 t3=.o/\name L4 t0=1:=by
 simp only[Zz,Xj,Xn,and_true] at z;have g0:=qf4 (L:=L4) (t:=t0) (by lia);have g1:=qf4 (L:=L4) (t:=t1) (by lia);have g2:=qf4 (L:=L4) (t:=t2) (by lia);have g3:=qf4 (L:=L4) (t:=t3) (by lia);subst g0 g1 g2 g3;exact⟨e4,rfl,rfl⟩
theorem kpn{t0 t1 t2 t3:Tr}{L4:List Tr}(hc:¬(decide ([0,0,0,0]=[name L4 t0,name L4 t1,name L4 t2,name L4 t3].map λx:Nat=>(x:Int))||decide ([1,1,1,1]=[name L4 t0,name L4 t1,name L4 t2,name L4 t3].map λx:Nat=>(x:Int)))=true):mk t0 t1 t2 t3=.nd t0 t1 t2 t3:=by
 unfold mk;rw[Zh,Zh]
 ·rintro⟨rfl,rfl,rfl,rfl⟩;exact hc (by rw[YI];exact .inr (Zq rfl))
 ·rintro⟨rfl,rfl,rfl,rfl⟩;exact hc (by rw[YI];exact .inl (Zq rfl))
theorem kpi{t0 t1 t2 t3:Tr}{L L4:List Tr}(hO:Ord L)(e4:L4=post t3 (post t2 (post t1 (post t0 L))))(vQ:Tr.nd t0 t1 t2 t3∈L4):Tr.nd t0 t1 t2 t3∈L/\L4=L:=by
 have vG:Tr.nd t0 t1 t2 t3∈L:=by
  by_cases zz:Tr.nd t0 t1 t2 t3∈L
  ·exact zz
  ·exact absurd (e4▸vQ) (Tr.not_below zz)
 obtain⟨i,hi,ei⟩:=ZI.mp vG;have kin:=λs hs=>(Tr.kid_in hO (i:=i) (t:=.nd t0 t1 t2 t3) (by rw[Zd hi,ei]) (s:=s) hs).1;exact⟨vG,by rw[e4,qp9 (kin t0 (by simp[Tr.kids])),qp9 (kin t1 (by simp[Tr.kids])),qp9 (kin t2 (by simp[Tr.kids])),qp9 (kin t3 (by simp[Tr.kids]))]⟩
theorem kpx{t0 t1 t2 t3:Tr}{L L4:List Tr}(e4:L4=post t3 (post t2 (post t1 (post t0 L))))(vQ:Tr.nd t0 t1 t2 t3∉L4):post (.nd t0 t1 t2 t3) L=L4++[.nd t0 t1 t2 t3]:=by
 have vG:Tr.nd t0 t1 t2 t3∉L:=λz=>vQ (by
  rw[e4];obtain⟨s1,h1⟩:=Tr.post_ext t0 L;obtain⟨s2,h2⟩:=Tr.post_ext t1 (Tr.post t0 L);obtain⟨s3,h3⟩:=Tr.post_ext t2 (Tr.post t1 (Tr.post t0 L));obtain⟨s4,h4⟩:=Tr.post_ext t3 (Tr.post t2 (Tr.post t1 (Tr.post t0 L)));rw[h4,h3,h2,h1];simp[z])
 rw[e4];show (if Tr.nd t0 t1 t2 t3∈L then L else _)=_;rw[Zh vG]
end Qf
namespace Pr
open PySem L2 Qf
theorem xf2{t0 t1 t2 t3:Tr}{L4:List Tr}(O4:Tr.Ord L4)(hk:∀s∈Tr.kids (.nd t0 t1 t2 t3),Tr.In L4 s)(hm:¬[Tr.name L4 t0,Tr.name L4 t1,Tr.name L4 t2,Tr.name L4 t3]∈Tr.rowsOf L4) :
  putK (tK (Tr.rowsOf L4)) (keyN [Tr.name L4 t0,Tr.name L4 t1,Tr.name L4 t2,Tr.name L4 t3]) (.int (((tK (Tr.rowsOf L4)).length:Int)+2))=tK (Tr.rowsOf (L4++[.nd t0 t1 t2 t3])):=by
 have er:=qk3 O4 hk;rw[show (Tr.kids (.nd t0 t1 t2 t3)).map (Tr.name L4)=[Tr.name L4 t0,Tr.name L4 t1,Tr.name L4 t2,Tr.name L4 t3] from rfl] at er;have j5:(tK (Tr.rowsOf L4)).length=L4.length:=by unfold tK;rw[qn4,Tr.rowsOf_len]
 have h1:=q92 (key:=keyN) (k:=2) (λa b=>qA9) hm;rw[er,j5];unfold tK;rw[<- h1,Tr.rowsOf_len];congr 2;lia
end Pr
namespace Qf
open Tr
theorem qO8{m:Row->Bool}:∀(bs:List Nat)(rs:List Row),bs.length=rs.length ->
  ((List.range bs.length).filter (λi=>m (rs.getD i []))).map (λi=>bs.getD i 0)=((bs.zip rs).filter (λq=>m q.2)).map Prod.fst
 |[],[],_=>rfl
 |b::bs,r::rs,h=>by
  have ih:=qO8 (m:=m) bs rs (by simpa using h);rw[ZK,List.range_succ_eq_map,Yw,WS,Yw,List.filter_map];have e1:((λi=>m ((r::rs).getD i []))∘Nat.succ)=λi=>m (rs.getD i []):=by funext i;rfl
  have e2:((λi=>(b::bs).getD i 0)∘Nat.succ)=λi=>bs.getD i 0:=by funext i;rfl
  rw[e1];show List.map _ (if m r=true then _ else _)=List.map _ (if m r=true then _ else _);split
  ·rw[Zz,Y4,e2,ih,Zz];rfl
  ·rw[Y4,e2,ih]
theorem qC2{m:Row->Bool}:∀(bs:List Nat)(rs:List Row),bs.length=rs.length->((bs.zip rs).filter (λq=>m q.2)).map Prod.snd=rs.filter m
 |[],[],_=>rfl
 |b::bs,r::rs,h=>by
  have ih:=qC2 (m:=m) bs rs (by simpa using h);rw[WS,Yw,Yw];show List.map _ (if m r=true then _ else _)=_;split
  ·rw[Zz,ih]
  ·exact ih
end Qf
namespace Pr
open PySem L2 Qf
theorem RowsL.filter{H H':Hp}{p D:Addr}{rs:List Row}{bs:List Addr}(m:Row->Bool)(hl:bs.length=rs.length)(hr:∀(i:Nat) b r,bs[i]?=some b->rs[i]?=some r->H b=some (.tup (vN r)))(s:Same H H')
  (hD:H' D=some (.lst (((List.range bs.length).filter (λi=>m (rs.getD i []))).map (λi=>V.ref (bs.getD i 0))))):RowsL H' D (rs.filter m):=by
 have e:((List.range bs.length).filter (λi=>m (rs.getD i []))).map (λi=>V.ref (bs.getD i 0))=(((bs.zip rs).filter (λq=>m q.2)).map Prod.fst).map V.ref:=by
  rw[<- qO8 bs rs hl,Y4];rfl
 rw[e] at hD;refine⟨_,hD,by rw[<- qC2 bs rs hl,Ze,Ze],λi b r e1 e2=>?_⟩;rw[<- qC2 bs rs hl] at e2;rw[Zg] at e1 e2;obtain⟨q,hq,rfl⟩:=Zl.mp e1;rw[hq] at e2;have e3:q.2=r:=by simpa using e2
 have hm:=(Yr.mp (Zy hq)).1;obtain⟨j,hj,ej⟩:=ZI.mp hm;rw[List.length_zip] at hj;have ez:(bs.zip rs)[j]?=some q:=by rw[Zd (by rw[List.length_zip];exact hj),ej]
 rw[List.getElem?_zip_eq_some] at ez;rw[<- e3];exact s _ _ (hr j q.1 q.2 ez.1 ez.2)
section
variable{P:Program}{w:World}{K:PySem.W.Frag}{mg:Str->Option Value}{base:Heap}
abbrev qo6:List Str:=["_law_box", "_law_row", "_law_column", "_law_side"]
theorem xm1:FnScope qo6 qo6 (qa5 qy1):=qd4
theorem xy9:FnScope qo6 qo6 (qa5 lHas):=qd4
inductive spMeets_(m:Nat->Nat->Nat->Row->Bool)(vs:List V)(H:Hp)(Q:VK):Prop
 |mk(b:Addr)(bx:Row)(r c s:Nat)(e0:vs=[.ref b,.int (r:Nat),.int (c:Nat),.int (s:Nat)])(e1:H b=some (.tup (vN bx)))(e2:bx.length=4)(e3:Q (.bl (m r c s bx)) H)
def qC3(m:Nat->Nat->Nat->Row->Bool):Sp:=λvs H Q _=>spMeets_ m vs H Q
theorem xb8{f:Addr}{fd:FuncData}(F:Fun K "_law_meets" "_law_meets" qy1 f fd):FnOk P w K mg base CX0 1 f fd qo6 (qC3 qw2):=by
 refine F.ok xm1 (λvs H Q E h=>?_) (λcdv A outer s H vs Q E hr h=>?_)
 ·obtain⟨b,bx,r,c,s,rfl,_⟩:=h
  rfl
 ·obtain⟨b,bx,r,c,s,rfl,hb,h4,q⟩:=h;obtain⟨x,y,h',w',rfl⟩:=qv8 h4;refine seqE ⟨_,⟨qe5 (qt2 (qb8 qC7 (qa6 qb5 (pv 1) (pv 3)) (pxN ix_tup (pv 0) qa3) (qb6 _))
   (qk7 (qb8 qC7 (qa6 qb5 (pxN ix_tup (pv 0) qa3) (pxN ix_tup (pv 0) qa3)) (pv 1) (qb6 _)))).pt (qa9 (qb1 qk6)) qb7⟩,?_⟩
  refine qg2 ⟨_,⟨qb1 (qr0 (qf9 qp0 (pv 2) (qa6 qb5 (pxN ix_tup (pv 0) qa3) (pxN ix_tup (pv 0) qa3)) (qb6 _)) (qq9 (qf9 qp0 (pxN ix_tup (pv 0) qa3) (qa6 qb5 (pv 2) (pv 3)) (qb6 _))))⟩,?_⟩;have em:qw2 r c s [x,y,h',w']=decide (x<r+s/\r<x+h'/\c<y+w'/\y<c+s):=rfl;rw[em] at q;refine⟨_,rfl,_,rfl,_,_,rfl,rfl,_,rfl,b,_,0,.int (x:Nat),rfl,rfl,SqT.of hb,rfl,_,_,rfl,rfl,_,rfl,?_⟩;refine ite2 (λhc=>?_) (λhc=>?_)
  ·have:=ZG hc;rw[Zp (by lia)] at q;exact iteT q
  ·have h1:=Yv (Yo.mpr hc);refine⟨_,rfl,b,_,0,.int (x:Nat),rfl,rfl,SqT.of hb,rfl,_,rfl,b,_,2,.int (h':Nat),rfl,rfl,SqT.of hb,rfl,_,_,rfl,rfl,_,rfl,_,_,rfl,rfl,_,rfl,?_⟩;refine ite2 (λhc=>?_) (λhc=>?_)
   ·have:=ZG hc;rw[Zp (by lia)] at q;exact q
   ·have h2:=Yv (Yo.mpr hc);refine⟨_,rfl,_,rfl,b,_,1,.int (y:Nat),rfl,rfl,SqT.of hb,rfl,_,rfl,b,_,3,.int (w':Nat),rfl,rfl,SqT.of hb,rfl,_,_,rfl,rfl,_,_,rfl,rfl,_,rfl,?_⟩;refine ite2 (λhc=>?_) (λhc=>?_)
    ·have h3:=ZG hc;refine⟨_,rfl,b,_,1,.int (y:Nat),rfl,rfl,SqT.of hb,rfl,_,rfl,_,rfl,_,_,rfl,rfl,_,_,rfl,rfl,?_⟩;have e:decide ((y:Int)<(c:Int)+(s:Int))=decide (x<r+s/\r<x+h'/\c<y+w'/\y<c+s):=by
      congr 1;exact propext ⟨λz=>⟨by lia,by lia,by lia,by lia⟩,λz=>by lia⟩
     show Q (.bl (decide ((y:Int)<(c:Int)+(s:Int)))) H;rw[e];exact q
    ·have h3:=Yv (Yo.mpr hc);rw[Zp (by lia)] at q;exact q
theorem xt9{f:Addr}{fd:FuncData}(F:Fun K "_law_has" "_law_has" lHas f fd):FnOk P w K mg base CX0 1 f fd qo6 (qC3 hasB):=by
 refine F.ok xy9 (λvs H Q E h=>?_) (λcdv A outer s H vs Q E hr h=>?_)
 ·obtain⟨b,bx,r,c,s,rfl,_⟩:=h
  rfl
 ·obtain⟨b,bx,r,c,s,rfl,hb,h4,q⟩:=h;obtain⟨x,y,h',w',rfl⟩:=qv8 h4;refine seqE ⟨_,⟨qe5 (qt2 (qb8 qp0 (pv 1) (pxN ix_tup (pv 0) qa3) (qb6 _))
   (qk7 (qb8 qp0 (qa6 qb5 (pxN ix_tup (pv 0) qa3) (pxN ix_tup (pv 0) qa3)) (qa6 qb5 (pv 1) (pv 3)) (qb6 _)))).pt (qa9 (qb1 qk6)) qb7⟩,?_⟩
  refine qg2 ⟨_,⟨qb1 (qr0 (qf9 qC7 (pxN ix_tup (pv 0) qa3) (pv 2) (qb6 _)) (qq9 (qf9 qC7 (qa6 qb5 (pv 2) (pv 3)) (qa6 qb5 (pxN ix_tup (pv 0) qa3) (pxN ix_tup (pv 0) qa3)) (qb6 _))))⟩,?_⟩;have em:hasB r c s [x,y,h',w']=decide (x<=r/\r+s<=x+h'/\y<=c/\c+s<=y+w'):=rfl;rw[em] at q;refine⟨_,rfl,_,rfl,b,_,0,.int (x:Nat),rfl,rfl,SqT.of hb,rfl,_,_,rfl,rfl,_,rfl,?_⟩;refine ite2 (λhc=>?_) (λhc=>?_)
  ·have:=ZG hc;rw[Zp (by lia)] at q;exact iteT q
  ·have h1:=Yv (Yo.mpr hc);refine⟨_,rfl,b,_,0,.int (x:Nat),rfl,rfl,SqT.of hb,rfl,_,rfl,b,_,2,.int (h':Nat),rfl,rfl,SqT.of hb,rfl,_,_,rfl,rfl,_,rfl,_,rfl,_,_,rfl,rfl,_,_,rfl,rfl,_,rfl,?_⟩;refine ite2 (λhc=>?_) (λhc=>?_)
   ·have:=ZG hc;rw[Zp (by lia)] at q;exact q
   ·have h2:=Yv (Yo.mpr hc);refine⟨_,rfl,b,_,1,.int (y:Nat),rfl,rfl,SqT.of hb,rfl,_,rfl,_,_,rfl,rfl,_,rfl,?_⟩;refine ite2 (λhc=>?_) (λhc=>?_)
    ·have h3:=ZG hc;refine⟨_,rfl,_,rfl,_,_,rfl,rfl,_,rfl,b,_,1,.int (y:Nat),rfl,rfl,SqT.of hb,rfl,_,rfl,b,_,3,.int (w':Nat),rfl,rfl,SqT.of hb,rfl,_,_,rfl,rfl,_,_,rfl,rfl,?_⟩;have e:decide ((c:Int)+(s:Int)<=(y:Int)+(w':Int))=decide (x<=r/\r+s<=x+h'/\y<=c/\c+s<=y+w'):=by
      congr 1;exact propext ⟨λz=>⟨by lia,by lia,by lia,by lia⟩,λz=>by lia⟩
     show Q (.bl (decide ((c:Int)+(s:Int)<=(y:Int)+(w':Int)))) H;rw[e];exact q
    ·have h3:=Yv (Yo.mpr hc);rw[Zp (by lia)] at q;exact q
end
end Pr
namespace Qf
open Tr
def qt(k:Nat)(m:List Row)(r c i:Nat):Tr:=bt k m (r+2^k*(i/2)) (c+2^k*(i%2))
def qL(k:Nat)(m:List Row)(r c:Nat)(L:List Tr):Nat->List Tr
 |0=>L
 |i+1=>post (qt k m r c i) (qL k m r c L i)
theorem qH5{k:Nat}{m:List Row}{r c:Nat}{L:List Tr}(h:Ord L):∀i,Ord (qL k m r c L i)
 |0=>h
 |i+1=>(post_ord _ _ (qH5 h i)).1
theorem qS7{k:Nat}{m:List Row}{r c:Nat}{L:List Tr}(h:Ord L){j:Nat}:∀i,j<i->In (qL k m r c L i) (qt k m r c j)
 |i+1,hj=>by
  by_cases e:j=i
  ·rw[e];exact (post_ord _ _ (qH5 h i)).2
  ·exact (qS7 h i (by lia)).post _
theorem xm2{k:Nat}{m:List Row}{r c:Nat}{L:List Tr}(h:Ord L){i:Nat}{t:Tr}(ht:In (qL k m r c L i) t):name (qL k m r c L (i+1)) t=name (qL k m r c L i) t:=by
 obtain⟨s,e⟩:=post_ext (qt k m r c i) (qL k m r c L i);show name (post _ _) t=_;rw[e];exact name_app ht (qH5 h i)
theorem q53{k:Nat}{m:List Row}{r c:Nat}{L:List Tr}:∀i,(qL k m r c L i).length<=L.length+i*sz k
 |0=>by show L.length<=_;lia
 |i+1=>by
  have h1:=q53 (k:=k) (m:=m) (r:=r) (c:=c) (L:=L) i;have h2:=qq0 (qt k m r c i) (qL k m r c L i);have h3:=qR9 k m (r+2^k*(i/2)) (c+2^k*(i%2));show (post _ _).length<=_;rw[WH];unfold qt at h2;unfold qt;lia
def names(k:Nat)(m:List Row)(r c:Nat)(L:List Tr)(i:Nat):List Nat:=(List.range i).map λj=>name (qL k m r c L i) (qt k m r c j)
theorem qS8{k:Nat}{m:List Row}{r c:Nat}{L:List Tr}(h:Ord L)(i:Nat):names k m r c L (i+1)=names k m r c L i++[name (post (qt k m r c i) (qL k m r c L i)) (qt k m r c i)]:=by
 unfold names;rw[Yb,ZE];congr 1;exact Ye λj hj=>xm2 h (qS7 h i (ZW.mp hj))
theorem xz0(k:Nat)(boxes:List Row)(r c:Nat)(h1:met boxes r c (2^(k+1))≠[])(h2:(met boxes r c (2^(k+1))).any (hasB r c (2^(k+1)))=false) :
  bt (k+1) boxes r c=mk (qt k (met boxes r c (2^(k+1))) r c 0) (qt k (met boxes r c (2^(k+1))) r c 1) (qt k (met boxes r c (2^(k+1))) r c 2) (qt k (met boxes r c (2^(k+1))) r c 3):=by
 unfold bt;rw[Zh h1,Zh (by rw[h2];decide)];unfold qt;simp
theorem xm3{boxes:List Row}{r c s:Nat}:(met boxes r c s).length<=boxes.length:=Wl _ _
theorem xm4{boxes:List Row}{r c:Nat}(h:met boxes r c 1≠[]):(met boxes r c 1).any (hasB r c 1)=true:=by
 obtain⟨b,hb⟩:=List.exists_mem_of_ne_nil _ h;refine Z2.mpr ⟨b,hb,?_⟩;have m:b.getD 0 0<r+1/\r<b.getD 0 0+b.getD 2 0/\c<b.getD 1 0+b.getD 3 0/\b.getD 1 0<c+1:=ZG (Yr.mp hb).2;exact Zq ⟨by lia,by lia,by lia,by lia⟩
theorem xu0:∀{k n:Nat},k<=n->sz k<=sz n
 |k,0,h=>by rw[show k=0 by lia];exact Zf _
 |k,n+1,h=>by
  by_cases e:k=n+1
  ·rw[e];exact Zf _
  ·have:=xu0 (show k<=n by lia);show _<=4*sz n+1;lia
end Qf
namespace L2
open PySem
theorem q54{H:Hp}{n:Nat}{te:TE}{σ:St}{Fin:Hp->Prop}{D:Addr}(Iv:Nat->List V->Hp->Prop)(hsz:n<sizeLine)(i0:Iv 0 [] (upd H D (.lst [])))(hD:∀i xs H2,Iv i xs H2->H2 D=some (.lst xs)/\xs.length<=i)
  (step:∀i xs H2,i<n->Iv i xs H2->∀Q2:VK,(∀v H3,H3 D=some (.lst xs)->Iv (i+1) (xs++[v]) (upd H3 D (.lst (xs++[v])))->Q2 v H3)->te (some (.int (0+(i:Int)))::σ) H2 Q2)
  (fin:∀xs H2,Iv n xs H2->Fin H2) :
  ∃W:Nat->Nat->List V->Hp->Prop,(∃m,W 0 m [] (upd H D (.lst []))) /\
   ∀i m xs H2,W i m xs H2->H2 D=some (.lst xs)/\xs.length<sizeLine/\(((Itr 0 n).stop i H2/\Fin H2)\/((Itr 0 n).go i H2/\∀y H3,(Itr 0 n).yld i H2 y H3->∀os:St,os.length=1 ->
    qf2 0 y (os++σ) H3 λσ4 H4=>qQ9 σ4 H4 λb H5=>if b=true then te σ4 H5 λv H6=>H6 D=some (.lst xs)/\∃m',m'<m/\W (i+1) m' (xs++[v]) (upd H6 D (.lst (xs++[v]))) else ∃m',m'<m/\W (i+1) m' xs H5)):=by
 obtain⟨W,w0,w⟩:=q95 (te:=te) (σ:=σ) Iv hsz i0 hD step fin;refine⟨W,w0,λi m xs H2 h=>?_⟩;obtain⟨h1,h2,h3⟩:=w i m xs H2 h;refine⟨h1,h2,h3.imp id λ⟨g,y⟩=>⟨g,λx H3 hx os ho=>?_⟩⟩;obtain⟨o,rfl⟩:=L2.os1 ho
 ·
  show (if (true:Bool)=true then te (some x::σ) H3 (λv H6=>H6 D=some (.lst xs)/\∃m',m'<m/\W (i+1) m' (xs++[v]) (upd H6 D (.lst (xs++[v])))) else ∃m',m'<m/\W (i+1) m' xs H3);rw[Zm rfl];exact y x H3 hx
end L2
namespace Qf
theorem xm5:∀{k:Nat}{boxes:List Row}{r c:Nat},met boxes r c (2^k)=[]->bt k boxes r c=.z
 |0,_,_,_,h=>Zm h
 |_+1,_,_,_,h=>Zm h
theorem xm6:∀{k:Nat}{boxes:List Row}{r c:Nat},met boxes r c (2^k)≠[]->(met boxes r c (2^k)).any (hasB r c (2^k))=true->bt k boxes r c=.o
 |0,_,_,_,h,g=>(Zh h).trans (Zm g)
 |_+1,_,_,_,h,g=>(Zh h).trans (Zm g)
end Qf
namespace Pr
open PySem L2 Qf
section
variable{P:Program}{w:World}{K:PySem.W.Frag}{mg:Str->Option Value}{base:Heap}
abbrev qH6:List Str:=["_law_rows", "_law_boxes", "_law_row", "_law_column", "_law_side"]
abbrev nNum:List Str:=["_law_rows", "_law_boxes", "_law_row", "_law_column", "_law_side", "_law_met", "_law_half", "_law_quarters"]
theorem scNum:FnScope nNum qH6 (qa5 qj0):=qd4
inductive spNum_(k:Nat)(vs:List V)(H:Hp)(Q:VK):Prop
 |mk(e bp:Addr)(boxes:List Row)(r c:Nat)(L:List Tr)(e0:vs=[.ref e,.ref bp,.int (r:Nat),.int (c:Nat),.int ((2^k:Nat):Int)])(e1:RowsL H bp boxes)(e2:(∀b∈boxes,b.length=4))(e3:boxes.length<=900)(e4:bp≠e)(e5:Tr.Ord L)(e6:H e=some (.dT (tK (Tr.rowsOf L))))(e7:L.length+sz k<=6000000)(e8:∀H',But e H H'->H' e=some (.dT (tK (Tr.rowsOf (Tr.post (bt k boxes r c) L))))->Q (.int (Tr.name (Tr.post (bt k boxes r c) L) (bt k boxes r c):Nat)) H')
def xb9(k:Nat):Sp:=λvs H Q _=>spNum_ k vs H Q
theorem q55{f fM fH:Addr}{fd fdM fdH:FuncData}(F:Fun K "_law_number" "_law_number" qj0 f fd)(B:Blt mg)(hN:mg "_law_number" = some (.ref f))(bN:Binds K fd qH6 [])
  (hM:mg "_law_meets" = some (.ref fM)) (FM:Fun K "_law_meets" "_law_meets" qy1 fM fdM) (bM:Binds K fdM qo6 [])
  (hH:mg "_law_has" = some (.ref fH)) (FH:Fun K "_law_has" "_law_has" lHas fH fdH) (bH:Binds K fdH qo6 []){m:Nat}(hk:m<=12){sp':Sp}(GI:FnOk P w K mg base CX0 (m+1) f fd qH6 sp') (kI:∀j,m=j+1->sp'=xb9 j):FnOk P w K mg base CX0 (m+2) f fd qH6 (xb9 m):=by
 have GM:FnOk P w K mg base CX0 1 fM fdM qo6 (qC3 qw2):=xb8 FM;have GH:FnOk P w K mg base CX0 1 fH fdH qo6 (qC3 hasB):=xt9 FH;refine F.ok scNum (λvs H Q E h=>?_) (λcdv A outer s H vs Q E hr h=>?_)
 ·obtain⟨e,bp,boxes,r,c,L,rfl,_⟩:=h
  rfl
 ·obtain⟨e,bp,boxes,r,c,L,rfl,hB,h4,vP,vF,hO,he,hLs,q⟩:=h;have j8:Room 1 _:=hr.mono (by lia);have hu:A.units+3+1<cLine:=by
   have h2:A.units+3+16*(m+1)+200<cLine:=hr.un;lia
  refine seqE ⟨_,⟨psN 5 scNum.nd (qY9 nNum (qa5 qj0) rfl rfl rfl scNum.nd (qo9 (pv 1))
   (λcl C fp s₀ H₀=>qg9 (pcN GM j8 hM FM.kp bM (qa0 (pv 0) (qa0 (pv 3) (qa0 (pv 4) (qa0 (pv 5) qa2)))))) (λcl C fp s₀ H₀=>pv 0))⟩,?_⟩
  refine seqE ⟨_,⟨qe5 (PW.pt (qt2 (qb8 (qY1 hr) (pv 5) (qk8 qa2) (qb6 _)) (qk7 (qg9 (qa8 (qE9 rfl) (by rfl) B.any PyProof.Rows.boot_any (qa0 (qh5 nNum (qa5 qj0) rfl rfl rfl scNum.nd (qo9 (pv 5))
   (λcl C fp s₀ H₀=>pcN GH j8 hH FH.kp bH (qa0 (pv 0) (qa0 (pv 3) (qa0 (pv 4) (qa0 (pv 5) qa2)))))) qa2))))))
   (qa9 (qb1 (qc3 qh1 (by rfl) B.int Yg (qa0 (qf9 (xp5 hr) (pv 5) (qk8 qa2) (qb6 _)) qa2)))) qb7⟩,?_⟩
  refine seqE ⟨_,⟨psN 6 scNum.nd (qa6 qf8 (pv 4) qa3)⟩,?_⟩;refine seqE ⟨_,⟨xi2 (i0:=7) nNum (qa5 qj0) rfl rfl rfl scNum.nd rfl rfl (qi5 (by rfl) B.range (qa0 qa3 qa2)) (λcl C fp s₀ H₀=>PEb.go ⟨pcN GI hr hN F.kp bN (Ars2.go (.cons ⟨pv 1⟩ (.cons ⟨pv 6⟩
   (.cons ⟨qa6 qb5 (pv 3) (qa6 qd6 (pv 7) (qa6 qf8 (pv 0) qa3))⟩ (.cons ⟨qa6 qb5 (pv 4) (qa6 qd6 (pv 7) (qa6 qr2 (pv 0) qa3))⟩ (.cons ⟨pv 7⟩ .nil rfl) rfl) rfl) rfl) rfl))⟩)⟩,?_⟩
  refine seqE ⟨_,⟨qe5 (qb8 (xd8 hr) (pv 7) (PEb.go ⟨qc1 (Ars2.go (.cons ⟨qk8 (Ars2.go (.cons qc7 (.cons qc7 (.cons qc7 (.cons qc7 .nil rfl) rfl) rfl) rfl))⟩ (.cons ⟨qk8 (Ars2.go (.cons qc7 (.cons qc7 (.cons qc7 (.cons qc7 .nil rfl) rfl) rfl) rfl))⟩ .nil rfl) rfl))⟩) (by first|rfl|decide|with_unfolding_all rfl))
   (qa9 (qb1 (pxN ix_list (pv 7) qa3))) qb7⟩,?_⟩
  refine seqE ⟨_,⟨qe5 (qT7 (qW6 hu (qc3 (tupO K rfl) (by rfl) B.tuple ZM (qa0 (pv 7) qa2)) (pv 0)))
   (qa9 (qp2 hu (pv 0) (qc3 (tupO K rfl) (by rfl) B.tuple ZM (qa0 (pv 7) qa2)) (qa6 qb5 (qa8 qw1 (by rfl) B.len ZT (qa0 (pv 0) qa2)) qa3) (by rfl))) qb7⟩,?_⟩
  refine qg2 ⟨_,⟨qb1 (xh2 hu (pv 0) (qc3 (tupO K rfl) (by rfl) B.tuple ZM (qa0 (pv 7) qa2)) (λ_ _=>rfl))⟩,?_⟩;obtain⟨bs,hb,j2,j6⟩:=id hB;have jH:(bs.map V.ref).length=bs.length:=Ze ..;refine⟨_,rfl,bp,rfl,⟨_,SqL.of hb⟩,λD hD=>qk1 hD (λi=>qw2 r c (2^m) (boxes.getD i [])) (λi=>.ref (bs.getD i 0)) (qA3 (K:=K) hb) (by rw[jH];exact qi6 (by lia)) ?_ ?_⟩
  ·intro j x H2 hj hx s2 os ho Q1 Q2 q1 q2;rw[Zg] at hx;obtain⟨b,kP,rfl⟩:=Zl.mp hx;have jK:j<boxes.length:=by rw[jH] at hj;lia
   have hg:boxes[j]?=some (boxes.getD j []):=by rw[ZD,Zd jK];rfl
   have eb:bs.getD j 0=b:=by rw[ZD,kP];rfl
   rw[eb] at q2;obtain⟨o1,rfl⟩:=L2.os1 ho
   ·
    refine⟨_,rfl,_,rfl,_,rfl,_,rfl,b,boxes.getD j [],r,c,2^m,rfl,s2 _ _ (j6 j b _ kP hg),h4 _ (Zy hg),_,rfl,?_⟩;refine ite2 (λhc=>⟨_,rfl,q2 hc H2 (Same.refl _)⟩) (λhc=>q1 (Yo.mpr hc) H2 (Same.refl _))
  ·intro H2 s2 k6;rw[jH] at k6;have hRm:RowsL H2 D (met boxes r c (2^m)):=RowsL.filter (p:=bp) (qw2 r c (2^m)) j2 j6 s2 k6;have hml:(met boxes r c (2^m)).length<=900:=ZH xm3 vP;have hm4:∀b∈met boxes r c (2^m),b.length=4:=λb hb=>h4 b (Yr.mp hb).1;have k9:=s2 _ _ he;have nDe:D≠e:=(qa4 he hD).symm;refine⟨_,rfl,(by show 0<=sizeLine;decide),λl hl=>?_⟩;refine⟨_,_,qp8 (hRm.same (qb0 hl)),.lst qa1 .nil,qh8 _,rfl,ql5 _,_,rfl,?_⟩;rw[q18];have S3:Same H (upd H2 l (.lst [])):=s2.trans (qb0 hl);have kF:=hRm.same (qb0 (o:=.lst []) hl);have vM:=qb4 (u:=.lst []) k9 hl;generalize upd H2 l (.lst [])=H3 at S3 kF vM;cases hmt:met boxes r c (2^m) with
   |nil=>
    have hT:bt m boxes r c=.z:=xm5 hmt;rw[hT] at q;rw[hmt] at kF;refine iteT (iteT ?_);refine⟨_,rfl,(by show 0<=sizeLine;decide),λl2 jG=>?_⟩;refine⟨_,_,qp8 (kF.same (qb0 jG)),.lst qa1 .nil,qh8 _,rfl,ql5 _,.inr ⟨_,rfl,?_⟩⟩;exact q _ (But.of (S3.trans (qb0 jG))) (qb4 vM jG)
   |cons b0 ml=>
    have jB:met boxes r c (2^m)≠[]:=by rw[hmt];exact λz=>nomatch z
    rw[<- hmt];clear hmt;have hie:(met boxes r c (2^m)).isEmpty=false:=by
     cases hq:met boxes r c (2^m) with
     |nil=>exact absurd hq jB
     |cons _ _=>rfl
    rw[hie];refine iteF ?_;obtain⟨ms,hms,hmsl,hmrow⟩:=id kF;have hml2:(ms.map V.ref).length=(met boxes r c (2^m)).length:=by rw[Ze,hmsl]
    refine⟨_,rfl,D,rfl,⟨_,SqL.of hms⟩,λD2 hDD=>qg1 hDD (λi y _=>y=.bl (hasB r c (2^m) ((met boxes r c (2^m)).getD i []))) (qA3 (K:=K) hms) (by rw[hml2];exact qi6 (by lia)) (λ_ _ _ _ _ _ h=>h) ?_ ?_⟩
    ·intro j x H4 hj hx s4 Q' hq;rw[Zg] at hx;obtain⟨b,kP,rfl⟩:=Zl.mp hx;have jK:j<(met boxes r c (2^m)).length:=by rw[hml2] at hj;exact hj
     have hg:(met boxes r c (2^m))[j]?=some ((met boxes r c (2^m)).getD j []):=by rw[ZD,Zd jK];rfl
     exact⟨_,rfl,_,rfl,_,rfl,_,rfl,b,_,r,c,2^m,rfl,s4 _ _ (hmrow j b _ kP hg),hm4 _ (Zy hg),hq _ _ (Same.refl _) rfl⟩
    ·intro ys H4 s4 jR jO jN;have ey:ys=((met boxes r c (2^m)).map (hasB r c (2^m))).map V.bl:=by
      refine qh6 (by rw[jO,hml2,Ze,Ze]) λj x hx=>?_;have jK:j<(met boxes r c (2^m)).length:=by
       have:=(gS_ hx).1;rw[jO,hml2] at this;exact this
      rw[jN j x hx,Zg,Zg,Zd jK,ZD,Zd jK]
      rfl
     subst ey;refine⟨D2,_,rfl,jR,_,rfl,?_⟩;have eany:((met boxes r c (2^m)).map (hasB r c (2^m))).any id=(met boxes r c (2^m)).any (hasB r c (2^m)):=by rw[List.any_map];rfl
     rw[eany];have S4:=S3.trans s4;have hR4:=kF.same s4;have he4:=s4 _ _ vM;cases hh:(met boxes r c (2^m)).any (hasB r c (2^m)) with
     |true=>
      have hT:bt m boxes r c=.o:=xm6 jB hh;rw[hT] at q;refine iteT ?_;refine⟨_,rfl,(by show 0<=sizeLine;decide),λl2 jG=>?_⟩;refine⟨_,_,qp8 (hR4.same (qb0 jG)),.lst qa1 .nil,qh8 _,rfl,ql5 _,.inr ⟨_,rfl,?_⟩⟩;rw[q18,hie];exact q _ (But.of (S4.trans (qb0 jG))) (qb4 he4 jG)
     |false=>
      obtain⟨k,rfl⟩:∃k,m=k+1:=by
       rcases m with _|k
       ·simp only[Nat.pow_zero] at jB hh;rw[xm4 jB] at hh;cases hh
       ·exact⟨k,rfl⟩
      cases kI k rfl;refine iteF ?_;have hT:=xz0 k boxes r c jB hh;obtain⟨p1,p2⟩:=qN5 (show k<=12 by lia);obtain⟨p3,p4⟩:=qN5 hk;have ehalf:(((2^(k+1):Nat):Int))/2=((2^k:Nat):Int):=by
       rw[Yy];lia
      clear hie hms hmsl hmrow hml2 jR jO jN eany hRm kF k6 S3 s4 jH;generalize met boxes r c (2^(k+1))=m at hT hR4 hml hm4 jB hh;refine⟨_,rfl,_,_,rfl,rfl,⟨by decide,by decide⟩,?_⟩;refine⟨_,rfl,by decide,by decide,λD4 hD4=>?_⟩;have nD4e:D4≠e:=(qa4 he4 hD4).symm;refine q54 (λi xs H5=>But e H4 H5/\H5 D4=some (.lst xs)/\xs=vN (names k m r c L i)/\H5 e=some (.dT (tK (Tr.rowsOf (qL k m r c L i))))) (by decide) ⟨But.of (qb0 hD4),qa1,rfl,qb4 he4 hD4⟩ (λi xs H5 h=>⟨h.2.1,by rw[h.2.2.1,qg5];simp[names]⟩) ?_ ?_
      ·rintro i xs H5 hi ⟨b5,jX,rfl,he5⟩ Q2 q2;have veq:[V.ref e,V.ref D,V.int ((r:Int)+((2^(k+1):Nat):Int)/2*((0+(i:Int))/2)),V.int ((c:Int)+((2^(k+1):Nat):Int)/2*((0+(i:Int))%2)),V.int (((2^(k+1):Nat):Int)/2)]=[V.ref e,V.ref D,V.int ((r+2^k*(i/2):Nat):Int),V.int ((c+2^k*(i%2):Nat):Int),V.int ((2^k:Nat):Int)]:=by
        rw[ehalf,Int.zero_add,Int.natCast_add,XY,Int.natCast_ediv,Int.natCast_add,XY,Int.natCast_emod]
        rfl
       refine⟨_,rfl,_,rfl,_,rfl,_,rfl,_,rfl,_,_,rfl,rfl,⟨by decide,by decide⟩,_,_,rfl,rfl,.inl ⟨by lia,by lia⟩,_,_,rfl,rfl,_,rfl,_,rfl,_,rfl,_,_,rfl,rfl,(by show (0:Int)<2;decide),_,_,rfl,rfl,.inl ⟨by lia,by lia⟩,_,_,rfl,rfl,_,rfl,
        e,D,m,r+2^k*(i/2),c+2^k*(i%2),qL k m r c L i,veq,hR4.but b5 nDe he4 (λu z=>by cases z),hm4,hml,nDe,qH5 hO i,he5,?_,λH6 b6 he6=>?_⟩
       ·have h1:=q53 (k:=k) (m:=m) (r:=r) (c:=c) (L:=L) i;have h2:sz (k+1)=4*sz k+1:=rfl;have h3:i*sz k<=3*sz k:=Nat.mul_le_mul_right _ (by lia);lia
       ·refine q2 _ _ (b6 _ _ jX nD4e) ⟨?_,qa1,?_,?_⟩
        ·intro b o z nb;rw[qa7 (qa4 z hD4)];exact b6 _ _ (b5 _ _ z nb) nb
        ·rw[qS8 hO];unfold vN;rw[ZE]
         rfl
        ·rw[qa7 (Xc nD4e)];exact he6
      ·rintro xs H5 ⟨b5,jX,rfl,he5⟩;have jX:H5 D4=some (.lst (vN (names k m r c L 4))):=jX;have he5:H5 e=some (.dT (tK (Tr.rowsOf (qL k m r c L 4)))):=he5;have O4:=qH5 (k:=k) (m:=m) (r:=r) (c:=c) hO 4;have in0:=qS7 (k:=k) (m:=m) (r:=r) (c:=c) hO (j:=0) 4 (by decide);have in1:=qS7 (k:=k) (m:=m) (r:=r) (c:=c) hO (j:=1) 4 (by decide);have in2:=qS7 (k:=k) (m:=m) (r:=r) (c:=c) hO (j:=2) 4 (by decide);have in3:=qS7 (k:=k) (m:=m) (r:=r) (c:=c) hO (j:=3) 4 (by decide);have hl4:=q53 (k:=k) (m:=m) (r:=r) (c:=c) (L:=L) 4;have hs4:sz (k+1)=4*sz k+1:=rfl;have e4:qL k m r c L 4=Tr.post (qt k m r c 3) (Tr.post (qt k m r c 2) (Tr.post (qt k m r c 1) (Tr.post (qt k m r c 0) L))):=rfl;have en:names k m r c L 4=[Tr.name (qL k m r c L 4) (qt k m r c 0),Tr.name (qL k m r c L 4) (qt k m r c 1),Tr.name (qL k m r c L 4) (qt k m r c 2),Tr.name (qL k m r c L 4) (qt k m r c 3)]:=rfl;rw[en] at jX;rw[hT] at q;generalize qL k m r c L 4=L4 at he5 O4 in0 in1 in2 in3 hl4 e4 jX;generalize qt k m r c 0=t0,qt k m r c 1=t1,qt k m r c 2=t2,qt k m r c 3=t3 at in0 in1 in2 in3 e4 jX q;have B5:But e H H5:=(But.of S4).trans b5;refine⟨_,rfl,(by show 4<=sizeLine;decide),λa ha=>⟨(by show 4<=sizeLine;decide),λb hb'=>⟨(by show 2<=sizeLine;decide),λt ht=>?_⟩⟩⟩;have S6:Same H5 (upd (upd (upd H5 a (.lst [.int 0,.int 0,.int 0,.int 0])) b (.lst [.int 1,.int 1,.int 1,.int 1])) t (.tup [.ref a,.ref b])):=((qb0 ha).trans (qb0 hb')).trans (qb0 ht);have da:DataAt (upd (upd (upd H5 a (.lst [.int 0,.int 0,.int 0,.int 0])) b (.lst [.int 1,.int 1,.int 1,.int 1])) t (.tup [.ref a,.ref b])) (.ref a) (dL [0,0,0,0]):=.lst (qb4 (qb4 qa1 hb') ht) (DatasAt.ints [0,0,0,0]);have db:DataAt (upd (upd (upd H5 a (.lst [.int 0,.int 0,.int 0,.int 0])) b (.lst [.int 1,.int 1,.int 1,.int 1])) t (.tup [.ref a,.ref b])) (.ref b) (dL [1,1,1,1]):=.lst (qb4 qa1 ht) (DatasAt.ints [1,1,1,1]);have vE:=S6 _ _ jX;have he6:=S6 _ _ he5;have ht6:upd (upd (upd H5 a (.lst [.int 0,.int 0,.int 0,.int 0])) b (.lst [.int 1,.int 1,.int 1,.int 1])) t (.tup [.ref a,.ref b]) t=some (.tup [.ref a,.ref b]):=qa1;generalize upd (upd (upd H5 a (.lst [.int 0,.int 0,.int 0,.int 0])) b (.lst [.int 1,.int 1,.int 1,.int 1])) t (.tup [.ref a,.ref b])=H6 at S6 da db vE he6 ht6 ⊢;refine⟨t,[.ref a,.ref b],[dL [0,0,0,0],dL [1,1,1,1]],dL ([Tr.name L4 t0,Tr.name L4 t1,Tr.name L4 t2,Tr.name L4 t3].map λx:Nat=>(x:Int)),rfl,ht6,.cons da (.cons db .nil),.lst (vE.trans (ZQ (λz=>some (HO.lst z)) (qv3 _))) (DatasAt.ints _),qL8 _,(by simp[PyData.canLayAll0,qL8]),ZH (qN2 _) (by decide),?_⟩;rw[Yn,Yn,List.any_nil,qY2,qY2,Bool.or_false];have B6:But e H H6:=B5.trans (But.of S6);refine⟨_,rfl,?_⟩;have hk:∀s∈Tr.kids (.nd t0 t1 t2 t3),Tr.In L4 s:=λs hs=>by
        have:s=t0\/s=t1\/s=t2\/s=t3:=by simpa [Tr.kids] using hs
        rcases this with rfl|rfl|rfl|rfl<;>assumption
       refine ite2 (λhc=>?_) (λhc=>?_)
       ·rcases YI _ _▸hc with z|z
        ·obtain⟨eL,em,e0⟩:=kp0 e4 (ZG z);rw[em] at q;have q':=q H6 B6 (show H6 e=some (.dT (tK (Tr.rowsOf L))) from eL▸he6);exact⟨_,rfl,D4,_,0,.int (Tr.name L4 t0:Nat),rfl,rfl,SqL.of vE,rfl,by rw[e0];exact q'⟩
        ·obtain⟨eL,em,e0⟩:=kp1 e4 (ZG z);rw[em] at q;have q':=q H6 B6 (show H6 e=some (.dT (tK (Tr.rowsOf L))) from eL▸he6);exact⟨_,rfl,D4,_,0,.int (Tr.name L4 t0:Nat),rfl,rfl,SqL.of vE,rfl,by rw[e0];exact q'⟩
       ·have hmk:=kpn hc;rw[hmk] at q;have hrow4:(Tr.kids (.nd t0 t1 t2 t3)).map (Tr.name L4)=[Tr.name L4 t0,Tr.name L4 t1,Tr.name L4 t2,Tr.name L4 t3]:=rfl;have hmem:=q19 O4 hk;rw[hrow4] at hmem;refine⟨_,rfl,D4,_,rfl,.inl ⟨SqL.of vE,λu hu=>?_⟩⟩;have S7:=qb0 (o:=.tup (vN [Tr.name L4 t0,Tr.name L4 t1,Tr.name L4 t2,Tr.name L4 t3])) hu;have he7:=S7 _ _ he6;have hu7:upd H6 u (.tup (vN [Tr.name L4 t0,Tr.name L4 t1,Tr.name L4 t2,Tr.name L4 t3])) u=some (.tup ((keyN [Tr.name L4 t0,Tr.name L4 t1,Tr.name L4 t2,Tr.name L4 t3]).map kV)):=by rw[qa1,qw0]
        have vO:=S7 _ _ vE;have B7:=B6.trans (But.of (e:=e) S7);generalize upd H6 u (.tup (vN [Tr.name L4 t0,Tr.name L4 t1,Tr.name L4 t2,Tr.name L4 t3]))=H7 at S7 he7 hu7 vO B7 ⊢;refine⟨_,rfl,e,_,rfl,DGet.t he7 hu7,_,rfl,?_⟩;rw[xd9];by_cases hm:[Tr.name L4 t0,Tr.name L4 t1,Tr.name L4 t2,Tr.name L4 t3]∈Tr.rowsOf L4
        ·rw[Zm hm];refine iteF ?_;have vQ:=hmem.mp hm;obtain⟨vG,eL⟩:=kpi hO e4 vQ;rw[qp9 (.inr (.inr vG))] at q;rw[<- eL] at q vG;refine⟨_,rfl,_,rfl,D4,_,rfl,.inl ⟨SqL.of vO,λu2 jP=>⟨e,_,rfl,xe0 O4 vG (qb4 he7 jP) qa1,?_⟩⟩⟩;exact q _ (B7.trans (But.of (qb0 jP))) (qb4 he7 jP)
        ·rw[Zh hm];refine iteT ?_;have vQ:Tr.nd t0 t1 t2 t3∉L4:=λz=>hm (hmem.mpr z);have ep:=kpx e4 vQ;have O5:=(Tr.post_ord (.nd t0 t1 t2 t3) L hO).1;rw[ep] at q O5;have er:=qk3 O4 hk;rw[hrow4] at er;have j5:(tK (Tr.rowsOf L4)).length=L4.length:=by unfold tK;rw[qn4,Tr.rowsOf_len]
         refine⟨_,rfl,e,_,rfl,he7,_,_,rfl,rfl,_,rfl,_,rfl,D4,_,rfl,.inl ⟨SqL.of vO,λu2 jP=>?_⟩⟩;have he8:=qb4 (u:=.tup (vN [Tr.name L4 t0,Tr.name L4 t1,Tr.name L4 t2,Tr.name L4 t3])) he7 jP;refine⟨e,_,rfl,DPut.t he8 (by rw[qa1,qw0]) (by rw[j5];exact ZS (show L4.length<=6000000 by lia) (by decide)),?_⟩;have eput:=xf2 O4 hk hm;rw[eput];have hd8:upd (upd H7 u2 (.tup (vN [Tr.name L4 t0,Tr.name L4 t1,Tr.name L4 t2,Tr.name L4 t3]))) e (.dT (tK (Tr.rowsOf (L4++[.nd t0 t1 t2 t3])))) D4=some (.lst (vN [Tr.name L4 t0,Tr.name L4 t1,Tr.name L4 t2,Tr.name L4 t3])):=by
          rw[qa7 nD4e];exact qb4 vO jP
         have he9:upd (upd H7 u2 (.tup (vN [Tr.name L4 t0,Tr.name L4 t1,Tr.name L4 t2,Tr.name L4 t3]))) e (.dT (tK (Tr.rowsOf (L4++[.nd t0 t1 t2 t3])))) e=some (.dT (tK (Tr.rowsOf (L4++[.nd t0 t1 t2 t3])))):=qa1;have B8:But e H (upd (upd H7 u2 (.tup (vN [Tr.name L4 t0,Tr.name L4 t1,Tr.name L4 t2,Tr.name L4 t3]))) e (.dT (tK (Tr.rowsOf (L4++[.nd t0 t1 t2 t3]))))):=(B7.trans (But.of (qb0 jP))).trans But.upd;generalize upd (upd H7 u2 (.tup (vN [Tr.name L4 t0,Tr.name L4 t1,Tr.name L4 t2,Tr.name L4 t3]))) e (.dT (tK (Tr.rowsOf (L4++[.nd t0 t1 t2 t3]))))=H8 at hd8 he9 B8 ⊢;have enm:∀s,Tr.In L4 s->Tr.name (L4++[.nd t0 t1 t2 t3]) s=Tr.name L4 s:=λs hs=>Tr.name_app hs O4;refine⟨_,rfl,_,rfl,D4,_,rfl,.inl ⟨SqL.of hd8,λu3 hu3=>⟨e,_,rfl,xe0 (a:=t0) (b:=t1) (c:=t2) (d:=t3) O5 (by simp) (qb4 he9 hu3) (by rw[qa1,enm t0 in0,enm t1 in1,enm t2 in2,enm t3 in3]),?_⟩⟩⟩;exact q _ (B8.trans (But.of (qb0 hu3))) (qb4 he9 hu3)
theorem xf3{f fM fH:Addr}{fd fdM fdH:FuncData}(F:Fun K "_law_number" "_law_number" qj0 f fd)(B:Blt mg)(hN:mg "_law_number" = some (.ref f))(bN:Binds K fd qH6 [])
  (hM:mg "_law_meets" = some (.ref fM)) (FM:Fun K "_law_meets" "_law_meets" qy1 fM fdM) (bM:Binds K fdM qo6 [])
  (hH:mg "_law_has" = some (.ref fH)) (FH:Fun K "_law_has" "_law_has" lHas fH fdH) (bH:Binds K fdH qo6 []):∀k,k<=12->FnOk P w K mg base CX0 (k+2) f fd qH6 (xb9 k)
 |0,h=>q55 F B hN bN hM FM bM hH FH bH h (sp':=λ_ _ _ _=>False) ⟨λ_ _ _ _ h=>h.elim,λ_ _ _ _ _ _ _ _ _ _ _ _ _ h=>h.elim⟩ (λj e=>nomatch e)
 |k+1,h=>q55 F B hN bN hM FM bM hH FH bH h (xf3 F B hN bN hM FM bM hH FH bH k (by lia)) (λj e=>by cases e;rfl)
end
end Pr
namespace L2
open PySem PySem.Spec PyProof.Rows PySem.W
namespace TupMul
theorem mul1(t:Tok)(l:Addr)(items:Array Value)(n:Nat)(dct:Option Addr)(sl:Array (Option Value))(hs:items.size=1) :
  Meets (Builtin.«tuple.__mul__» ⟨[.ref l,.int 1 t],[]⟩) (λ_ R s=>s.heap.get? l=some { cls:=.type "tuple",dict:=dct,data:=.seq items n,slots:=sl }/\R (.ok (.ret (.ref l))) s):=
 .of_wp λprog w A R s h=>by
  obtain⟨hp,g,d,tk,os⟩:=s;obtain⟨hl,h⟩:=h
  wp_walk
  exact⟨_,rfl,h⟩
theorem mul0(t:Tok)(l:Addr)(items:Array Value)(n:Nat)(dct:Option Addr)(sl:Array (Option Value))(hs:items.size=1) :
  Meets (Builtin.«tuple.__mul__» ⟨[.ref l,.int 0 t],[]⟩) (λ_ R s=>s.heap.get? l=some { cls:=.type "tuple",dict:=dct,data:=.seq items n,slots:=sl } /\
   R (.ok (.ret (.ref s.heap.objs.size))) { s with heap:=s.heap.push { cls:=.type "tuple",data:=.seq #[] } }):=
 .of_wp λprog w A R s h=>by
  obtain⟨hp,g,d,tk,os⟩:=s;obtain⟨hl,h⟩:=h;have c0:items.isEmpty=false:=by
   cases he:items.isEmpty with
   |false=>rfl
   |true=>rw[Array.isEmpty_iff.mp he] at hs;cases hs
  have c2:(items.isEmpty||(0:Int)==1)=false:=by rw[c0];rfl
  wp_walk
  exact⟨_,rfl,h⟩
end TupMul
section
variable{X:Cx}
theorem xc0:OpR X (binaryOp .Mult) (λx y H Q=>∃(l:Addr)(k:Nat)(v:V),x=.ref l/\y=.int (k:Nat)/\H l=some (.tup [v])/\k<2/\∀p H',H' p=some (.tup (List.replicate k v))->(H'=H\/H p=none/\H'=upd H p (.tup (List.replicate k v)))->Q (.ref p) H'):=by
 intro j1 s σ H x y v u Q I rx ry h;obtain⟨l,k,v1,rfl,rfl,hH,h1,q⟩:=h;cases rx;obtain⟨t,rfl⟩:=ry;obtain⟨_,its,r,o,ho,hc,⟨n,hdn⟩,hd⟩:=I.hok l _ hH;obtain⟨oc,od,odt,osl⟩:=o
 replace hc:oc=.type "tuple":=hc
 replace hd:odt=.seq its.toArray n:=hd
 subst hc hd;cases r with
 |cons r1 rr=>
  cases rr;rename_i u1
  match k,h1 with
  |1,_=>
   refine XH (T:= "tuple") (U:= "int") (by decide) ⟨_,ho,rfl⟩ (λs'=>Wq s' 1 t) TupMul.noFill F.fills_int_mul Xm TupMul.rep F.slot_int_index.lookup
    (Wr Xm (Wq s 1 t) F.entry_int_rmul (W0 _ _) (TupMul.declines 1 t l _ n od osl)
     ⟨ho,rfl,⟨_,ho,rfl⟩,Wr XF ⟨_,ho,rfl⟩ W1 (WO _ _) (TupMul.mul1 t l _ n od osl rfl) ⟨ho,?_⟩⟩)
   exact⟨.ref l,H,I,rfl,q l H hH (.inl rfl)⟩
  |0,_=>
   refine XH (T:= "tuple") (U:= "int") (by decide) ⟨_,ho,rfl⟩ (λs'=>Wq s' 0 t) TupMul.noFill F.fills_int_mul Xm TupMul.rep F.slot_int_index.lookup
    (Wr Xm (Wq s 0 t) F.entry_int_rmul (W0 _ _) (TupMul.declines 0 t l _ n od osl)
     ⟨ho,rfl,⟨_,ho,rfl⟩,Wr XF ⟨_,ho,rfl⟩ W1 (WO _ _) (TupMul.mul0 t l _ n od osl rfl) ⟨ho,?_⟩⟩)
   exact⟨.ref _,_,I.laid (a:=s.heap.objs.size) (o:=.tup (List.replicate 0 v1)) (t':=s.toks) (λb o e=>Zc _ e) (Zf _) ⟨Zx _,[],.nil,_,Zj _ rfl,rfl,⟨_,rfl⟩,rfl⟩,rfl,q _ _ qa1 (.inr ⟨I.fresh,rfl⟩)⟩
end
end L2
namespace Qf
open Tr
theorem qy7(t:Tr)(e:List Tr)(h:Ord e):post t (post t e)=post t e:=qp9 (post_ord t e h).2
theorem q56{a b c d:Tr}:Tr.nd a b c d∉post a []:=λh=>by
 rcases qf3 a [] _ h with z|z
 ·cases z
 ·simp at z;lia
theorem qo7{t:Tr}:post (.nd t t t t) []=post t []++[.nd t t t t]:=by
 have h:=qy7 t [] ord_nil;show (if Tr.nd t t t t∈[] then _ else post t (post t (post t (post t [])))++[Tr.nd t t t t])=_;rw[Zh (by simp),h,h,h]
def bxC(x:Nat×Nat):Row:=[x.1,x.2,1,1]
def sqT(n:Nat)(S:List (Nat×Nat)):Tr:=bt n (S.map bxC) 0 0
def bdL(n:Nat)(S:List (Nat×Nat))(k:Nat):List Tr:=post (brd (sqT n S) k) []
theorem qO9(n:Nat)(S:List (Nat×Nat))(k:Nat):Ord (bdL n S k)/\In (bdL n S k) (brd (sqT n S) k):=post_ord _ [] ord_nil
theorem qK6{L:List Tr}{t:Tr}:name L t<2<->t=.z\/t=.o:=by
 constructor
 ·intro h;have:name L t=0\/name L t=1:=by lia
  exact this.imp qe6 qf4
 ·rintro (rfl|rfl)
  ·show (0:Nat)<2;decide
  ·show (1:Nat)<2;decide
theorem qP0{n:Nat}(hn:n<=2)(S:List (Nat×Nat)):∀k,(bdL n S k).length<=21+k
 |0=>by
  have h1:=qq0 (sqT n S) [];have h2:=qR9 n (S.map bxC) 0 0;have h3:sz n<=21:=by
   match n,hn with
   |0,_|1,_|2,_=>decide
  simp only[Vf] at h1;show (post (sqT n S) []).length<=21;unfold sqT at h1 ⊢;lia
 |k+1=>by
  have ih:=qP0 hn S k;by_cases h:brd (sqT n S) k=.z\/brd (sqT n S) k=.o
  ·have:bdL n S (k+1)=bdL n S k:=by unfold bdL;rw[show brd (sqT n S) (k+1)=brd (sqT n S) k from qC0 h]
   rw[this];lia
  ·have:bdL n S (k+1)=bdL n S k++[.nd (brd (sqT n S) k) (brd (sqT n S) k) (brd (sqT n S) k) (brd (sqT n S) k)]:=by
    unfold bdL;rw[show brd (sqT n S) (k+1)=_ from qK5 h,qo7]
   rw[this,Zi];exact Nat.succ_le_succ ih
end Qf
namespace Pr
open PySem L2 Qf
section
variable{P:Program}{w:World}{K:PySem.W.Frag}{mg:Str->Option Value}{base:Heap}
theorem xu1{rows:List Row}{i:Nat}{r:Row}(h:rows[i]?=some r):∃v,(tK rows)[i]?=some (keyN r,v):=by
 unfold tK tabl;rw[Zg,List.getElem?_zipIdx,h];exact⟨_,rfl⟩
abbrev nBd:List Str:=["_law_n", "_law_m", "_law_cells", "_law_rows", "_law_number_here", "_law_k"]
abbrev nBd3:List Str:=["_law_n", "_law_m", "_law_cells"]
theorem scBd:FnScope nBd nBd3 (qa5 qF7):=qd4
inductive spBd_(vs:List V)(H:Hp)(Q:VK):Prop
 |mk(p:Addr)(n k:Nat)(S:List (Nat×Nat))(e0:vs=[.int (n:Nat),.int ((n+k:Nat):Int),.ref p])(e1:RowsL H p (S.map pr))(e2:n<=2/\n+k<=12)(e3:S.length<=16)(e4:∀H' t,Same H H'->TellAt H' t (n+k) (Tr.name (bdL n S k) (brd (sqT n S) k)) (Tr.rowsOf (bdL n S k))->Q (.ref t) H')
def spBd:Sp:=λvs H Q _=>spBd_ vs H Q
theorem xz1{f fN fM fH:Addr}{fd fdN fdM fdH:FuncData}(F:Fun K "_law_board" "_law_board" qF7 f fd)(B:Blt mg)(hN:mg "_law_number" = some (.ref fN))(FN:Fun K "_law_number" "_law_number" qj0 fN fdN)(bN:Binds K fdN qH6 [])
  (hM:mg "_law_meets" = some (.ref fM)) (FM:Fun K "_law_meets" "_law_meets" qy1 fM fdM) (bM:Binds K fdM qo6 [])
  (hH:mg "_law_has" = some (.ref fH)) (FH:Fun K "_law_has" "_law_has" lHas fH fdH) (bH:Binds K fdH qo6 []):FnOk P w K mg base CX0 5 f fd nBd3 spBd:=by
 have GN:∀k,k<=12->FnOk P w K mg base CX0 (k+2) fN fdN qH6 (xb9 k):=xf3 FN B hN bN hM FM bM hH FH bH;refine F.ok scBd (λvs H Q E h=>?_) (λcdv A outer s H vs Q E hr h=>?_)
 ·obtain⟨p,n,k,S,rfl,_⟩:=h
  rfl
 ·obtain⟨p,n,m,S,rfl,hp,⟨hn,hm⟩,hl,q⟩:=h;have un:=hr.units;have hu:_+1<cLine:=ZS (Xe (show 1<=64 by decide) _) un;have hrN:Room (n+2) _:=hr.mono (by lia);refine seqE ⟨_,⟨psN 3 scBd.nd qr9⟩,?_⟩;refine seqE ⟨_,⟨psN 4 scBd.nd (PEb.go ⟨qV2 (GN n (by lia)) hrN (by rfl) hN FN.kp bN .nil qm3 (Ars2.go (.cons ⟨pv 3⟩ (.cons ⟨qs0 nBd (qa5 qF7) rfl rfl rfl scBd.nd (qo9 (pv 2)) (λcl C fp s₀ H₀=>@qc1 _ _ _ _ _ (Ars2.go (.cons ⟨pv 0⟩ (.cons ⟨pv 1⟩ (.cons qc7 (.cons qc7 .nil rfl) rfl) rfl) rfl)))⟩ (.cons qc7 (.cons qc7 (.cons ⟨qa6 qK8 qa3 (pv 0)⟩ .nil rfl) rfl) rfl) rfl) rfl))⟩)⟩,?_⟩;refine seqE ⟨_,⟨qh0 Z0 rfl (qU1 (by rfl) B.range (qa0 (pv 0) (qa0 (pv 1) qa2))) (pgN 5 scBd.nd)
   (StB.go (.one ⟨qe5 (qb8 xf7 (pv 4) qa3 (by first|exact qb6 _|rfl|decide|with_unfolding_all rfl))
    (StB.go (.cons ⟨qp2 hu (pv 3) (PEb.go ⟨@qc1 _ _ _ _ _ (Ars2.go (.cons ⟨pv 4⟩ (.cons ⟨pv 4⟩ (.cons ⟨pv 4⟩ (.cons ⟨pv 4⟩ .nil rfl) rfl) rfl) rfl))⟩) (qa6 qb5 (qa8 qw1 (by rfl) B.len ZT (qa0 (pv 3) qa2)) qa3) (by rfl)⟩
     (.one ⟨psN 4 scBd.nd (qa6 qb5 (qa8 qw1 (by rfl) B.len ZT (qa0 (pv 3) qa2)) qa3)⟩))) qb7⟩))⟩,?_⟩
  refine qg2 ⟨_,⟨qb1 (@qc1 _ _ _ _ _ (Ars2.go (.cons ⟨pv 1⟩ (.cons ⟨pv 4⟩ (.cons ⟨qc3 (qG3 rfl) (by rfl) B.tuple ZM (qa0 (pv 3) qa2)⟩ .nil rfl) rfl) rfl)))⟩,?_⟩;intro e he;obtain⟨bs,hb,j2,j6⟩:=id hp;rw[Ze] at j2;have npe:p≠e:=qa4 hb he;refine⟨_,rfl,_,rfl,p,rfl,⟨_,SqL.of (qb4 hb he)⟩,λD hD=>qJ7 hD (λ_=>true) (λj z H3=>∃c x,z=.ref c/\S[j]?=some x/\H3 c=some (.tup (vN (bxC x)))) (qA3 (K:=K) (qb4 hb he)) (by rw[Ze,j2];exact qi0 (by lia)) ?_ ?_ ?_⟩
  ·rintro j y H1 H2 tk ⟨c,x,rfl,h1,h2⟩;exact⟨c,x,rfl,h1,tk _ _ h2⟩
  ·rintro j y H2 hj hy s2 os ho Q1 Q2 q1 q2;obtain⟨o1,o2,rfl⟩:=L2.os2 ho;rw[Zg] at hy;obtain⟨b,kP,rfl⟩:=Zl.mp hy;have hjS:j<S.length:=by rw[<- j2];exact (gS_ kP).1
   have hx:S[j]?=some (S[j]'hjS):=Zd hjS;have kO:=s2 _ _ (qb4 (j6 j b (pr S[j]) kP (by rw[Zg,hx];rfl)) he);generalize S[j]=x at hx kO;obtain⟨x1,x2⟩:=x;refine⟨b,_,rfl,SqT.of kO,rfl,_,_,rfl,_,_,rfl,rfl,?_⟩;refine iteT (B:=Q1 H2) ?_;exact⟨_,rfl,_,rfl,(by show 4<=sizeLine;decide),λc hc=>q2 rfl _ _ (qb0 hc) ⟨c,(x1,x2),rfl,hx,qa1⟩⟩
  ·intro ys H2 s2 jD jO jN;have ef:(List.range (bs.map V.ref).length).filter (λ_=>true)=List.range S.length:=by rw[List.filter_eq_self.mpr (λ_ _=>rfl),Ze,j2]
   rw[ef,Y3] at jO;rw[ef] at jN;have hys2:∀(j:Nat) y,ys[j]?=some y->∃c x,y=.ref c/\S[j]?=some x/\H2 c=some (.tup (vN (bxC x))):=λj y hy=>by
    have hj:=(gS_ hy).1;exact jN j y j hy (XJ (by lia))
   have refs:∀zs:List V,(∀z∈zs,∃b:Addr,z=.ref b)->∃cs:List Addr,zs=cs.map V.ref:=λzs=>by
    induction zs with
    |nil=>exact λ_=>⟨[],rfl⟩
    |cons z zs ih=>
     intro h;obtain⟨b,rfl⟩:=h z Zu;obtain⟨cs,rfl⟩:=ih λy hy=>h y (Zn _ hy);exact⟨b::cs,rfl⟩
   obtain⟨cs,rfl⟩:=refs ys λz hz=>by
    obtain⟨j,hj,ej⟩:=ZI.mp hz;obtain⟨c,x,e1,_⟩:=hys2 j z (by simp[hj,ej]);exact⟨c,e1⟩
   rw[Ze] at jO;have hBx:RowsL H2 D (S.map bxC):=⟨cs,jD,by rw[jO,Ze],λj b r e1 e2=>by
    obtain⟨c,x,e3,e4,e5⟩:=hys2 j (.ref b) (by rw[Zg,e1];rfl);cases e3;rw[Zg,e4] at e2;cases e2;exact e5⟩
   have k9:=s2 _ _ (show upd H e (.dT []) e=some (.dT []) from qa1);have nDe:D≠e:=λz=>by rw[z,qa1] at hD;cases hD
   have hsz:sz n<=6000000:=ZH (xu0 (show n<=12 by lia)) (by decide);have veq:[V.ref e,V.ref D,V.int 0,V.int 0,V.int (1*2^((n:Int)).toNat)]=[V.ref e,V.ref D,V.int ((0:Nat):Int),V.int ((0:Nat):Int),V.int ((2^n:Nat):Int)]:=by rw[qB2];rfl
   refine⟨_,rfl,_,_,rfl,rfl,⟨by lia,by lia,by decide⟩,e,D,S.map bxC,0,0,[],veq,hBx,(λb hb=>by obtain⟨x,_,rfl⟩:=ZF.mp hb;rfl),by rw[Ze];lia,nDe,Tr.ord_nil,k9,by simpa using hsz,λH3 b3 vM=>?_⟩;have S3:Same H H3:=λx o z=>b3 _ _ (s2 _ _ (qb4 z he)) (qa4 z he);have e0:Tr.rowsOf (Tr.post (bt n (S.map bxC) 0 0) [])=Tr.rowsOf (bdL n S 0):=rfl;refine⟨_,rfl,_,rfl,((n:Nat):Int),((n+m:Nat):Int),rfl,⟨by lia,by lia,by lia,by lia⟩,?_⟩;rw[show (((n+m:Nat):Int)-(n:Nat)).toNat=m by lia];refine qm1 (λk σ H4=>But e H H4/\H4 e=some (.dT (tK (Tr.rowsOf (bdL n S k))))/\∃v5,σ=[some (.int (n:Nat)),some (.int ((n+m:Nat):Int)),some (.ref p),some (.ref e),some (.int (Tr.name (bdL n S k) (brd (sqT n S) k):Nat)),v5])
    ⟨But.of S3,vM,none,rfl⟩ ?_ ?_
   ·rintro k σ H4 hk ⟨b4,h4,v5,rfl⟩;have j5:(tK (Tr.rowsOf (bdL n S k))).length=(bdL n S k).length:=by unfold tK;rw[qn4,Tr.rowsOf_len]
    have vP:=qP0 hn S k;obtain⟨od,inn⟩:=qO9 n S k;refine⟨_,rfl,_,_,rfl,rfl,_,rfl,?_⟩;by_cases jF:brd (sqT n S) k=.z\/brd (sqT n S) k=.o
    ·rw[Zp (by have:=(qK6 (L:=bdL n S k)).mpr jF;lia)];refine iteF ?_;have e1:brd (sqT n S) (k+1)=brd (sqT n S) k:=qC0 jF;have e2:bdL n S (k+1)=bdL n S k:=by unfold bdL;rw[e1]
     rw[e2,e1];exact⟨b4,h4,_,rfl⟩
    ·rw[Zq (by have h2:¬Tr.name (bdL n S k) (brd (sqT n S) k)<2:=λz=>jF ((qK6 (L:=bdL n S k)).mp z);lia)];refine iteT ?_;have e1:brd (sqT n S) (k+1)=.nd (brd (sqT n S) k) (brd (sqT n S) k) (brd (sqT n S) k) (brd (sqT n S) k):=qK5 jF;have e2:bdL n S (k+1)=bdL n S k++[.nd (brd (sqT n S) k) (brd (sqT n S) k) (brd (sqT n S) k) (brd (sqT n S) k)]:=by unfold bdL;rw[e1,qo7]
     have hkin:∀s∈Tr.kids (.nd (brd (sqT n S) k) (brd (sqT n S) k) (brd (sqT n S) k) (brd (sqT n S) k)),Tr.In (bdL n S k) s:=λs hs=>by
      have:s=brd (sqT n S) k:=by simpa [Tr.kids] using hs
      rw[this];exact inn
     have hnot:¬[Tr.name (bdL n S k) (brd (sqT n S) k),Tr.name (bdL n S k) (brd (sqT n S) k),Tr.name (bdL n S k) (brd (sqT n S) k),Tr.name (bdL n S k) (brd (sqT n S) k)]∈Tr.rowsOf (bdL n S k):=λz=>q56 ((q19 od hkin).mp z);have hput:=xf2 od hkin hnot;have od1:=(qO9 n S (k+1)).1;have enm:Tr.name (bdL n S (k+1)) (brd (sqT n S) (k+1))=(bdL n S k).length+2:=by
      rw[e1] at *;exact Tr.name_at od1 (by rw[e2,Zk (Zf _),Yz];rfl)
     rw[enm,e2];generalize Tr.name (bdL n S k) (brd (sqT n S) k)=x at hput ⊢;refine⟨_,rfl,e,_,rfl,h4,_,_,rfl,rfl,_,rfl,_,rfl,_,rfl,_,rfl,_,rfl,(by show 4<=sizeLine;decide),λc hc=>?_⟩;have nec:e≠c:=qa4 h4 hc;have eK:((keyN [x,x,x,x]).map kV)=[V.int (x:Nat),.int (x:Nat),.int (x:Nat),.int (x:Nat)]:=rfl;refine⟨e,_,rfl,DPut.t (k:=keyN [x,x,x,x]) (qb4 h4 hc) (by rw[eK];exact qa1) (by rw[j5];exact qi0 (by lia)),?_⟩;rw[hput];have l2:(tK (Tr.rowsOf (bdL n S k++[.nd (brd (sqT n S) k) (brd (sqT n S) k) (brd (sqT n S) k) (brd (sqT n S) k)]))).length=(bdL n S k).length+1:=by unfold tK;rw[qn4,Tr.rowsOf_len,Zi];rfl
     refine⟨_,rfl,e,_,rfl,qa1,_,_,rfl,rfl,?_⟩;rw[l2];have ev:V.int ((((bdL n S k).length+1:Nat):Int)+1)=.int (((bdL n S k).length+2:Nat):Int):=rfl;rw[ev];exact⟨λy u z nn=>by rw[qa7 nn];exact qb4 (b4 _ _ z nn) hc,qa1,_,rfl⟩
   ·rintro σ H4 ⟨b4,h4,v5,rfl⟩;have S4:Same H H4:=λx o z=>b4 _ _ z (qa4 z he);refine⟨_,rfl,_,rfl,_,rfl,e,_,rfl,h4,λl bs2 jG hbl2 hbs2=>⟨(by show 3<=sizeLine;decide),λt ht=>?_⟩⟩;refine q _ t ((S4.trans (qb0 jG)).trans (qb0 ht)) ⟨l,qa1,bs2,qb4 qa1 ht,?_,λi b r e1 e2=>?_⟩
    ·rw[hbl2];unfold tK;rw[qn4]
    ·obtain⟨v,hv⟩:=xu1 e2;have:=hbs2 i b _ e1 hv;rw[qw0] at this;exact qb4 (qb4 this jG) ht
end
end Pr
namespace Qf
open Tr
theorem qP1(t:Tr)(h:∃a b c d,t=.nd a b c d):name (post t []) t=(post t []).length+1:=by
 obtain⟨a,b,c,d,rfl⟩:=h;obtain⟨od,_⟩:=post_ord (.nd a b c d) [] ord_nil;have e:post (.nd a b c d) []=post d (post c (post b (post a [])))++[.nd a b c d]:=by
  show (if Tr.nd a b c d∈[] then _ else _)=_;rw[Zh (by simp)]
 have hg:(post (.nd a b c d) [])[(post d (post c (post b (post a [])))).length]?=some (.nd a b c d):=by
  rw[e,Zk (Zf _),Yz];rfl
 rw[name_at od hg,e,Zi]
 rfl
theorem qC4{t:Tr}:post (.nd t t t .z) []=post t []++[.nd t t t .z]:=by
 have h:=qy7 t [] ord_nil;show (if Tr.nd t t t .z∈[] then _ else post .z (post t (post t (post t [])))++[Tr.nd t t t .z])=_;rw[Zh (by simp),h,h]
 rfl
theorem qS9{t:Tr}(h:¬(t=.z\/t=.o)):rowsOf (post (.nd t t t t) [])=rowsOf (post t [])++[[name (post t []) t,name (post t []) t,name (post t []) t,name (post t []) t]]/\rowsOf (post (.nd t t t .z) [])=rowsOf (post t [])++[[name (post t []) t,name (post t []) t,name (post t []) t,0]]:=by
 obtain⟨od,inn⟩:=post_ord t [] ord_nil;have r1:=qk3 od (t:=.nd t t t t) λs hs=>by
  have:s=t:=by simpa [kids] using hs
  rw[this];exact inn
 have r2:=qk3 od (t:=.nd t t t .z) λs hs=>by
  have:s=t\/s=.z:=by simpa [kids] using hs
  rcases this with e|e
  ·rw[e];exact inn
  ·exact .inl e
 rw[qo7,qC4,r1,r2];exact⟨rfl,rfl⟩
theorem qP2{t:Tr}(h:¬(t=.z\/t=.o)):mk t t t .z=.nd t t t .z:=by
 unfold mk;rw[Zh λz=>h (.inl z.1),Zh λz=>h (.inr z.1)]
end Qf
namespace L2
theorem xc1(os:List V)(o:V):cutV (os++[o]) none (some (-1))=os:=by
 unfold cutV;have e1:HT.sIx (os++[o]).length 0 none=0:=rfl;have e2:HT.sIx (os++[o]).length (os++[o]).length (some (-1))=os.length:=by
  rw[Zi];unfold HT.sIx;simp;lia
 rw[e1,e2];simp
theorem xc2(os:List V)(o:V):atI (os++[o]) (-1)=some o:=by
 unfold atI ixN;have h:-((os++[o]).length:Int)<=-1:=by rw[Zi];show -((os.length+1:Nat):Int)<=-1;lia
 rw[Zh (by decide),Zm h];show (os++[o])[(-1+((os++[o]).length:Int)).toNat]?=_;have:(-1+((os++[o]).length:Int)).toNat=os.length:=by rw[Zi];show (-1+((os.length+1:Nat):Int)).toNat=_;lia
 rw[this,Zk (Zf _),Yz]
 rfl
end L2
namespace Pr
open PySem L2 Qf
section
variable{P:Program}{w:World}{K:PySem.W.Frag}{mg:Str->Option Value}{base:Heap}
abbrev nLq:List Str:=["_law_board_here", "_law_m", "_law_number_here", "_law_rows"]
theorem scLq:FnScope nLq ["_law_board_here"] (qa5 qM8):=qd4
inductive spLq_(vs:List V)(H:Hp)(Q:VK):Prop
 |mk(t:Addr)(m:Nat)(a:Tr)(e0:vs=[.ref t])(e1:TellAt H t m (Tr.name (Tr.post (mk a a a a) []) (mk a a a a)) (Tr.rowsOf (Tr.post (mk a a a a) [])))(e2:(Tr.post a []).length<=1000)(e3:∀H' t',Same H H'->TellAt H' t' m (Tr.name (Tr.post (mk a a a .z) []) (mk a a a .z)) (Tr.rowsOf (Tr.post (mk a a a .z) []))->Q (.ref t') H')
def spLq:Sp:=λvs H Q _=>spLq_ vs H Q
theorem ql9{H H':Hp}{p:Addr}{o:HO}(h:H'=H\/H p=none/\H'=upd H p o):Same H H':=by
 rcases h with e|⟨e1,e2⟩
 ·rw[e];exact Same.refl _
 ·rw[e2];exact qb0 e1
theorem xz2{f:Addr}{fd:FuncData}(F:Fun K "_law_less_a_quarter" "_law_less_a_quarter" qM8 f fd):FnOk P w K mg base CX0 1 f fd ["_law_board_here"] spLq:=by
 refine F.ok scLq (λvs H Q E h=>?_) (λcdv A outer s H vs Q E hr h=>?_)
 ·obtain⟨t,m,a,rfl,_⟩:=h
  rfl
 ·obtain⟨t,m,a,rfl,⟨rp,ht,hR⟩,hla,q⟩:=h;refine seqE ⟨_,⟨qr1 (pv 0) (qm0 rfl (qb9 (pgN 1 scLq.nd) (qb9 (pgN 2 scLq.nd) (qb9 (pgN 3 scLq.nd) qh3))))⟩,?_⟩;refine seqE ⟨_,⟨qe5 (qb8 qp0 (pv 2) qa3 (by first|exact qb6 _|rfl|decide|with_unfolding_all rfl)) (qa9 (qb1 (@qc1 _ _ _ _ _ (Ars2.go (.cons ⟨pv 1⟩ (.cons ⟨qa6 qd6 (pv 2) qa3⟩ (.cons ⟨qa6 xc0 (PEb.go ⟨qc1 (qa0 (PEb.go ⟨@qc1 _ _ _ _ _ (Ars2.go (.cons qc7 (.cons qc7 (.cons qc7 (.cons qc7 .nil rfl) rfl) rfl) rfl))⟩) qa2)⟩) (pv 2)⟩ .nil rfl) rfl) rfl))))) qb7⟩,?_⟩;refine qg2 ⟨_,⟨qb1 (@qc1 _ _ _ _ _ (Ars2.go (.cons ⟨pv 1⟩ (.cons ⟨pv 2⟩ (.cons ⟨qa6 qB8 (PEb.go ⟨qr8 q47 (pv 3) qz3 (qz4 (xf6 qU3 qa3))⟩) (PEb.go ⟨qc1 (qa0 (PEb.go ⟨qa6 qB8 (PEb.go ⟨qr8 q47 (PEb.go ⟨pxN ix_tup (pv 3) (xf6 qU3 qa3)⟩) qz3 (qz4 qa3)⟩) (PEb.go ⟨qc1 (qa0 qa3 qa2)⟩)⟩) qa2)⟩)⟩ .nil rfl) rfl) rfl)))⟩,?_⟩;refine⟨_,rfl,t,_,rfl,SqT.of ht,rfl,_,_,rfl,_,_,rfl,_,_,rfl,rfl,?_⟩;refine⟨_,rfl,_,_,rfl,rfl,_,rfl,?_⟩;by_cases jF:a=.z\/a=.o
  ·have em:mk a a a a=a:=qC0 jF;rw[em] at ht hR ⊢;rw[Zq (by have:=(qK6 (L:=Tr.post a []) (t:=a)).mpr jF;lia)];refine iteT ?_;rcases jF with rfl|rfl
   ·refine⟨_,rfl,_,rfl,_,_,rfl,rfl,.inr ⟨by decide,by decide⟩,(by show 4<=sizeLine;decide),λu1 hu1=>⟨(by show 1<=sizeLine;decide),λu2 jP=>⟨_,rfl,u2,0,.ref u1,rfl,rfl,qa1,by decide,λp H' h1 h2=>⟨(by show 3<=sizeLine;decide),λt' ht'=>?_⟩⟩⟩⟩;exact q _ t' (((qb0 hu1).trans (qb0 jP)).trans ((ql9 h2).trans (qb0 ht'))) ⟨p,qa1,[],qb4 h1 ht',rfl,λi b r e=>by cases e⟩
   ·refine⟨_,rfl,_,rfl,_,_,rfl,rfl,.inr ⟨by decide,by decide⟩,(by show 4<=sizeLine;decide),λu1 hu1=>⟨(by show 1<=sizeLine;decide),λu2 jP=>⟨_,rfl,u2,1,.ref u1,rfl,rfl,qa1,by decide,λp H' h1 h2=>⟨(by show 3<=sizeLine;decide),λt' ht'=>?_⟩⟩⟩⟩;have k1:=qb4 (u:=.tup [V.ref u1]) (qa1 (H:=H) (a:=u1) (o:=.tup [.int 1,.int 1,.int 1,.int 0])) jP;refine q _ t' (((qb0 hu1).trans (qb0 jP)).trans ((ql9 h2).trans (qb0 ht'))) ⟨p,qa1,[u1],qb4 h1 ht',rfl,λi b r e1 e2=>?_⟩
    match i,e1,e2 with
    |0,e1,e2=>cases e1;cases e2;exact qb4 (ql9 h2 _ _ k1) ht'
    |i+1,e1,_=>cases e1
  ·have em:mk a a a a=.nd a a a a:=qK5 jF;have e3:mk a a a .z=.nd a a a .z:=qP2 jF;rw[em] at ht hR ⊢;rw[e3] at q;have hnm:=qP1 (.nd a a a a) ⟨_,_,_,_,rfl⟩;have hnm3:=qP1 (.nd a a a .z) ⟨_,_,_,_,rfl⟩;rw[Zp (by rw[hnm,qo7,Zi];show ¬(((Tr.post a []).length+1+1:Nat):Int)<2;lia)];refine iteF ?_;have en:Tr.name (Tr.post (.nd a a a .z) []) (.nd a a a .z)=Tr.name (Tr.post (.nd a a a a) []) (.nd a a a a):=by rw[hnm,hnm3,qo7,qC4,Zi,Zi];rfl
   rw[en] at q;obtain⟨r1,r2⟩:=qS9 jF;rw[r1] at hR;rw[r2] at q;have hl0:(Tr.rowsOf (Tr.post a [])).length<=1000:=by rw[Tr.rowsOf_len];exact hla
   generalize Tr.rowsOf (Tr.post a [])=R0 at hR q hl0;generalize Tr.name (Tr.post a []) a=x at hR q;generalize Tr.name (Tr.post (.nd a a a a) []) (.nd a a a a)=nmb at q ⊢;obtain⟨bs,hb,j2,j6⟩:=hR;have jB:bs≠[]:=λz=>by rw[z,Zi] at j2;simp at j2
   obtain⟨bs0,bl,rfl⟩:∃bs0 bl,bs=bs0++[bl]:=⟨bs.dropLast,bs.getLast jB,(List.dropLast_concat_getLast jB).symm⟩;have vH:bs0.length=R0.length:=by rw[Zi,Zi] at j2;simpa using j2
   rw[ZE,Zz,Xj] at hb;have vP:H bl=some (.tup (vN [x,x,x,x])):=j6 R0.length bl _ (by rw[Zk (by lia),vH,Yz];rfl) (by rw[Zk (Zf _),Yz];rfl);refine⟨_,rfl,_,rfl,_,rfl,_,rfl,_,rfl,rp,_,rfl,hb,λp1 H1 h1 d1=>?_⟩;rw[xc1] at h1 d1;have s1:=ql9 d1;refine⟨_,rfl,_,rfl,rp,_,-1,.ref bl,rfl,rfl,SqT.of (s1 _ _ hb),xc2 _ _,_,rfl,bl,_,rfl,s1 _ _ vP,λp2 H2 h2 d2=>⟨(by show 1<=sizeLine;decide),λu1 hu1=>?_⟩⟩;have s2:=ql9 d2
   replace h2:H2 p2=some (.tup [.int (x:Nat),.int (x:Nat),.int (x:Nat)]):=h2
   refine⟨p2,u1,_,_,rfl,rfl,qb4 h2 hu1,qa1,(by show 4<=sizeLine;decide),λp3 H3 h3 d3=>⟨(by show 1<=sizeLine;decide),λu2 jP=>?_⟩⟩;have s3:=ql9 d3;have s23:=s2.trans ((qb0 (o:=.tup [.int 0]) hu1).trans (s3.trans (qb0 (o:=.tup [.ref p3]) jP)));refine⟨p1,u2,_,_,rfl,rfl,s23 _ _ h1,qa1,(by rw[Ze,vH];show _+1<=_;exact Wc (qi0 (by lia))),λp4 H4 h4 d4=>⟨(by show 3<=sizeLine;decide),λt' ht'=>?_⟩⟩;have s4:=(ql9 d4).trans (qb0 (o:=.tup [.int (m:Nat),.int (nmb:Nat),.ref p4]) ht');have sA:=s1.trans (s23.trans s4);refine q _ t' sA ⟨p4,qa1,bs0++[p3],qb4 (by rw[h4,ZE];rfl) ht',by rw[Zi,Zi,vH];rfl,λi b r e1 e2=>?_⟩;by_cases hi:i<R0.length
   ·rw[Zo (by lia)] at e1;rw[Zo hi] at e2;exact sA _ _ (j6 i b r (by rw[Zo (by lia)];exact e1) (by rw[Zo hi];exact e2))
   ·rw[Zk (by lia),vH] at e1;rw[Zk (by lia)] at e2;generalize i-R0.length=j at e1 e2
    match j,e1,e2 with
    |0,e1,e2=>cases e1;cases e2;exact s4 _ _ (qb4 h3 jP)
    |j+1,e1,_=>cases e1
end
end Pr
namespace Qf
open Tr L2
theorem q57{n:Nat}{S:List (Nat×Nat)}(i j:Nat):cellT n (sqT n S) i j=true<->(i%2^n,j%2^n)∈S:=by
 have h0:=qn5 n (sqT n S) (i/2^n) (j/2^n) (i%2^n) (j%2^n);rw[Yj,Yj] at h0;rw[h0];have hi:=Y6 i (qc0 n);have hj:=Y6 j (qc0 n);generalize i%2^n=a at hi ⊢;generalize j%2^n=b at hj ⊢;have h1:=xj6 n (S.map bxC) 0 0 a b (YQ hi) (YQ hj);rw[Nat.zero_mul] at h1;show cellT n (bt n (S.map bxC) 0 0) a b=true<->_;rw[h1,Z2];constructor
 ·rintro⟨r,hr,h⟩;obtain⟨x,hx,rfl⟩:=ZF.mp hr;have h:=ZG h;have h:x.1<=a/\a+1<=x.1+1/\x.2<=b/\b+1<=x.2+1:=h;have:(a,b)=x:=YJ (by show a=x.1;lia) (by show b=x.2;lia);rw[this];exact hx
 ·exact λh=>⟨_,ZF.mpr ⟨_,h,rfl⟩,Zq ⟨Zf _,Zf _,Zf _,Zf _⟩⟩
theorem qP3(n:Nat)(S:List (Nat×Nat)):dep (sqT n S)<=n:=qG6 n _ 0 0
section
variable{n:Nat}{S:List (Nat×Nat)}{sd:Bool}
theorem qC5(hS:∀x∈S,x.1<2^n/\x.2<2^n){d r:Nat}(hd:0<d)(hr:0<r):ofRows (λd r=>byW sd (tm (2^n) S r (d*r))) d r=qh2 sd (d*2^n) (r*2^n) (cellT n (sqT n S)):=by
 rw[<- q50 sd (qc0 n) (λi j=>(qt0 (sqT n S) i j).1) (λi j=>(qt0 (sqT n S) i j).2) hd hr];have e:∀a b:Nat,0<a->0<b->byW sd (tm (2^n) S b (a*b))=qh2 sd (a*2^n) (b*2^n) (cellT n (sqT n S)):=λa b ha hb=>xm0 (qc0 n) ha hb hS q57;unfold ofRows;dsimp only;rw[e 1 1 (by decide) (by decide),e 1 2 (by decide) (by decide),e 2 1 (by decide) (by decide),e 2 2 (by decide) (by decide)]
theorem xm7(hS:∀x∈S,x.1<2^n/\x.2<2^n)(k:Nat):(if sd then bal (brd (sqT n S) k) else 1-bal (arT (brd (sqT n S) k)))=ofRows (λd r=>byW sd (tm (2^n) S r (d*r))) ((2^k:Nat):Int) ((2^k:Nat):Int):=by
 rw[qC5 hS (qc0 k) (qc0 k),qH4 (qj7 (qP3 n S) k)];rw[show 2^k*2^n=2^(n+k) by rw[<- Vk,Vb]];exact qw7 (qc0 _) (qc0 _) λi j _ _=>qC1 _ i j k
theorem xc3(k:Nat):(2^(n+k)-1)%2^n=2^n-1:=by
 have h:=qc0 n;have hk:=qc0 k;have e:2^(n+k)-1=2^n*(2^k-1)+(2^n-1):=by
  rw[Vk];obtain⟨a,ha⟩:∃a,2^k=a+1:=⟨2^k-1,by lia⟩;rw[ha,Vc,X7];lia
 rw[e,Nat.mul_add_mod,Xf (by lia)]
theorem qT0(hS:∀x∈S,x.1<2^n/\x.2<2^n)(k:Nat):(if sd then bal (mk (brd (sqT n S) k) (brd (sqT n S) k) (brd (sqT n S) k) .z) else 1-bal (arT (mk (brd (sqT n S) k) (brd (sqT n S) k) (brd (sqT n S) k) .z))) =
  ofRows (λd r=>byW sd (tm (2^n) S r (d*r))) ((2^k:Nat):Int) ((2^(k+1):Nat):Int)+ofRows (λd r=>byW sd (tm (2^n) S r (d*r))) ((2^(k+1):Nat):Int) ((2^k:Nat):Int)-ofRows (λd r=>byW sd (tm (2^n) S r (d*r))) ((2^k:Nat):Int) ((2^k:Nat):Int) -
   (if sd then 0 else bi (!decide ((2^n-1,2^n-1)∈S)&&(decide ((2^n-1,0)∈S)&&decide ((0,2^n-1)∈S)))):=by
 have hd:=qj7 (qP3 n S) k;rw[qC5 hS (qc0 k) (qc0 (k+1)),qC5 hS (qc0 (k+1)) (qc0 k),qC5 hS (qc0 k) (qc0 k),qH4 (m:=n+k+1) (qN6 hd hd hd (Zx _))];have e1:2^k*2^n=2^(n+k):=by rw[<- Vk,Vb]
 have e2:2^(k+1)*2^n=2^(n+k)+2^(n+k):=by rw[qe7,Nat.add_mul,e1]
 rw[e1,e2,qe7 (n+k)];have fp:∀i j,cellT (n+k) (brd (sqT n S) k) i j=cellT n (sqT n S) i j:=λi j=>qC1 _ i j k;rw[qS6 (f:=cellT n (sqT n S)) (qc0 (n+k)) (λi j=>by rw[<- fp,<- fp];exact (qt0 _ i j).1) (λi j=>by rw[<- fp,<- fp];exact (qt0 _ i j).2) λi j hi hj=>?_]
 ·congr 1;cases sd with
  |true=>rfl
  |false=>
   rw[Zh (by decide),Zh (by decide)];have ed:∀i j,cellT n (sqT n S) i j=decide ((i%2^n,j%2^n)∈S):=λi j=>by rw[ZO,q57,Z4]
   rw[ed,ed,ed,xc3,Nat.zero_mod]
 ·have hk:2*(i/2^(n+k)%2)+j/2^(n+k)%2<4:=by lia
  show cellT (n+k) (qr (2*(i/2^(n+k)%2)+j/2^(n+k)%2) (mk _ _ _ _)) i j=_;rw[xj4 hk];have dv:∀x,x<2^(n+k)+2^(n+k)->x/2^(n+k)=if 2^(n+k)<=x then 1 else 0:=λx hx=>by
   split
   ·rename_i h;exact Nat.div_eq_of_lt_le (by lia) (by lia)
   ·exact YQ (by lia)
  rw[dv i hi,dv j hj];by_cases c1:2^(n+k)<=i<;>by_cases c2:2^(n+k)<=j<;>simp only[c1,c2,Yt,ZP,decide_true,decide_false,Xa,Yh,YA,YU,Bool.true_and,Wd]
  ·show cellT (n+k) .z i j=false;exact qw3 _ _ _
  ·exact fp i j
  ·exact fp i j
  ·exact fp i j
end
end Qf
namespace L2
open PySem PySem.Spec PyProof.Rows PySem.W
section
variable{X:Cx}{st:Stmt}{rest:List Stmt}{t u:TS}
end
section
variable{X:Cx}{e:Expr}{te:TE}
end
end L2
namespace Pr
open PySem L2 Qf
end Pr
namespace L2
open PySem PySem.Spec PyProof.Rows
section
variable{X:Cx}
theorem q58{i0:Nat}{x0:Str}{px0 spos:Pos}{x:Str}{px pos:Pos}{elt iter c:Expr}{scope:Scope}{wi:TI}{tt:TT}{te:TE}(N:List Str)(sc:Scope)(kG:X.N=N)(kA:X.env.scope=sc)(hc:X.calm=true)(hN:X.N.Nodup)(vK:X.N[i0]?=some x0)(hx0:X.env.scope.names.lookup x0=some .local)(hi:PI X (.Name x px) iter wi)
  (ht:∀cl C fp s₀ H₀,PT (qb2 X scope cl C [x] fp s₀ H₀) c tt) (he:∀cl C fp s₀ H₀,PE (qb2 X scope cl C [x] fp s₀ H₀) elt te)
  (j7:scope.kind=.function:=by rfl) (j3:scope.names.all (λy=>y.2 != .cell)=true:=by decide +kernel) (j4:scope.names.all (λy=>y.2 != .local||scope.names.lookup y.1==some .local)=true:=by decide +kernel)
  (hx:scope.names.lookup x=some .local:=by rfl) (jA:N.all (λy=>scope.names.lookup y != some .local)=true:=by decide +kernel)
  (hfr:scope.names.all (λp=>p.2 != .free||(sc.names.lookup p.1==some .cell||sc.names.lookup p.1==some .free))=true:=by decide +kernel)
  (hs:∀x,foldedSetIterable iter X.env x=pure x:=by intro _;rfl) (hsw:swapsWith (.ListComp elt [⟨.Name x px,iter,[c],0⟩] scope pos) (some (.Name x0 px0)) spos.line X.env=pure true:=by rfl) :
  PS X (.Assign [.Name x0 px0] (.ListComp elt [⟨.Name x px,iter,[c],0⟩] scope pos) spos) (tAsg (qm7 1 wi (qf2 0) tt te) (qf2 i0)):=by
 obtain⟨s1,s2,s3,s4⟩:=qi7 kG kA j3 j4 jA hfr;refine qM2 (nn:=[x]) (λenv=>isTrue c env (eval c env)) hc hi (λit acc env=>qL9 elt _ iter c scope pos it acc env) (λcl C fp s₀ H₀=>?_) (λy os σ H R ho h=>loc1 ho h) (λcl C fp s₀ H₀ j1 s σ H Q I h=>ht cl C fp s₀ H₀ j1 s σ H Q I h) he j7 s1 s2 s3 s4 hs hN vK hx0 hsw;have l:(qb2 X scope cl C [x] fp s₀ H₀).env.scope.names.lookup x=some .local:=YD hx;exact ql1 (i:=0) (Z9.mpr ⟨λz=>s3 x z hx,hN⟩) rfl (.inl l) (.inr l)
theorem qT1{k:Nat}(hr:Room k X.A):OpR X (compareOp .NotIn) (λx y H Q=>∃(p:Addr)(xs:List V)(ds:List PyData)(d:PyData),y=.ref p/\H p=some (.lst xs)/\DatasAt H xs ds/\DataAt H x d/\d.canLay0=true/\PyData.canLayAll0 ds=true/\d.depth<=50 /\
  Q (.bl (!ds.any λe=>PyData.eqv e d)) H):=by
 intro j1 s σ H x y v u Q I rx ry h;obtain⟨p,xs,ds,d,rfl,hp,jZ,hd,c1,c2,dd,q⟩:=h;cases ry;obtain⟨as,ra⟩:=hd.reads I.hok rx;obtain⟨z,its,n,rv,ho⟩:=I.hok p _ hp;have un:=hr.units;obtain⟨k1,k2⟩:=qB0 (X:=X) I un ra c1 dd jZ rv c2;refine SeqAt.notIn_listAt (items:=its.toArray) (qp5 s.heap d) ⟨_,ho,rfl,n,rfl⟩ (λw hw=>k1 w (by simpa using hw)) ⟨.bl _,H,I,rfl,?_⟩;rw[show its.toArray.any (qp5 s.heap d)=its.any (qp5 s.heap d) by simp,k2];exact q
end
section
variable{prog:Program}{w:World}{A:Around}{E:Value->Shared->Prop}{s:Shared}
end
section
variable{X:Cx}{elts:List Expr}{x1:Nat}{tpos:Pos}
end
section
variable{X:Cx}
theorem q59{k:Nat}(hr:Room k X.A):OpR X (compareOp .In) (λx y H Q=>∃(p:Addr)(xs:List V)(ds:List PyData)(d:PyData),y=.ref p/\H p=some (.lst xs)/\DatasAt H xs ds/\DataAt H x d/\d.canLay0=true/\PyData.canLayAll0 ds=true/\d.depth<=50 /\
  Q (.bl (ds.any λe=>PyData.eqv e d)) H):=by
 intro j1 s σ H x y v u Q I rx ry h;obtain⟨p,xs,ds,d,rfl,hp,jZ,hd,c1,c2,dd,q⟩:=h;cases ry;obtain⟨as,ra⟩:=hd.reads I.hok rx;obtain⟨its,rv,pl,hz⟩:=I.list (SqL.of hp);have un:=hr.units;obtain⟨k1,k2⟩:=qB0 (X:=X) I un ra c1 dd jZ rv c2;refine SeqAt.in_listAt (qp5 s.heap d) pl.isList (λw hw=>k1 w (by simpa using hw)) ⟨.bl _,H,I,rfl,?_⟩;rw[show its.toArray.any (qp5 s.heap d)=its.any (qp5 s.heap d) by simp,k2];exact q
end
end L2
namespace Qf
def qrs(s i:Nat):Nat×Nat:=(i/s,i%s)
theorem xu2{s:Nat}(hs:0<s):∀n,((List.range n).map (qrs s)).Nodup:=λn=>by
 rw[ZU,W5];refine (ZU.mp List.nodup_range).imp λ{a b} h e=>h ?_;have e1:a/s=b/s:=ZQ Prod.fst e;have e2:a%s=b%s:=ZQ Prod.snd e;rw[<- Yj a s,<- Yj b s,e1,e2]
end Qf
namespace Qf
open Tr
theorem qq5(n:Nat)(S:List (Nat×Nat)):∀k,Red (brd (sqT n S) k)
 |0=>qG5 n _ 0 0
 |k+1=>q25 (qq5 n S k) (qq5 n S k) (qq5 n S k) (qq5 n S k)
theorem q60(t:Tr):(post (mk t t t .z) []).length<=(post t []).length+1:=by
 by_cases h:t=.z\/t=.o
 ·rcases h with rfl|rfl<;>decide
 ·rw[qP2 h,qC4,Zi];exact Zf _
end Qf
namespace Pr
open PySem L2 Qf
theorem qP4(a b:Nat×Nat):PyData.eqv (dT ((pr a).map λx:Nat=>(x:Int))) (dT ((pr b).map λx:Nat=>(x:Int)))=decide (a=b):=by
 obtain⟨a1,a2⟩:=a;obtain⟨b1,b2⟩:=b;rw[ZO,Z4];simp[dT,pr,PyData.eqv,PyData.eqvAll];lia
theorem qx0(S:List (Nat×Nat))(x:Nat×Nat):(((S.map pr).map λr=>dT (r.map λx:Nat=>(x:Int))).any λe=>PyData.eqv e (dT ((pr x).map λx:Nat=>(x:Int))))=decide (x∈S):=by
 rw[ZO,Z2,Z4];constructor
 ·rintro⟨e,he,h⟩;rw[Y4] at he;obtain⟨y,hy,rfl⟩:=ZF.mp he;have:PyData.eqv (dT ((pr y).map λx:Nat=>(x:Int))) (dT ((pr x).map λx:Nat=>(x:Int)))=true:=h;rw[qP4,Z4] at this;rw[<- this];exact hy
 ·intro h;refine⟨_,ZF.mpr ⟨_,ZF.mpr ⟨x,h,rfl⟩,rfl⟩,?_⟩;rw[qP4];exact Zq rfl
theorem qx1{H:Hp}{u:Addr}{i j:Nat}(h:H u=some (.tup [.int (i:Nat),.int (j:Nat)])):DataAt H (.ref u) (dT ((pr (i,j)).map λx:Nat=>(x:Int))):=.tup h (DatasAt.ints [(i:Int),(j:Int)])
theorem qq6(x:Nat×Nat):(dT ((pr x).map λx:Nat=>(x:Int))).depth<=50:=by
 show PyData.depthAll _+1<=50;rw[qp7];decide
structure GrowC(p D:Addr)(H:Hp)(s i:Nat)(xs:List V)(H2:Hp):Prop where
 but:But p H H2
 pot:PurseAt H2 p
 at_:H2 D=some (.lst xs)
 len:xs.length<=i
 its:∃(cs:List Addr)(S:List (Nat×Nat)),xs=cs.map V.ref/\cs.length=S.length/\S.Sublist ((List.range i).map (qrs s))/\∀(j:Nat) c b,cs[j]?=some c->(S.map pr)[j]?=some b->H2 c=some (.tup (vN b))
theorem GrowC.start{p D:Addr}{H:Hp}{s:Nat}(hp:PurseAt H p)(hD:H D=none):GrowC p D H s 0 [] (upd H D (.lst [])):=
 ⟨But.of (qb0 hD),hp.same (qb0 hD),qa1,Zf _,[],[],rfl,rfl,List.Sublist.refl _,λj c b e=>by simp at e⟩
theorem GrowC.kept{p D:Addr}{H H2 H3:Hp}{s i:Nat}{xs:List V}(g:GrowC p D H s i xs H2)(npD:p≠D)(b:But p H2 H3)(hp:PurseAt H3 p):GrowC p D H s (i+1) xs H3:=by
 obtain⟨b2,p2,a2,l2,cs,S,e,hl,hs,hr⟩:=g;refine⟨b2.trans b,hp,b _ _ a2 (Xc npD),by lia,cs,S,e,hl,?_,λj c r e1 e2=>?_⟩
 ·rw[Yb,ZE];exact hs.trans (List.sublist_append_left _ _)
 ·have:=hr j c r e1 e2;refine b _ _ this λz=>?_;obtain⟨x,y,e3,_⟩:=p2;rw[z,e3] at this;cases this
theorem GrowC.more{p D t:Addr}{H H2 H3:Hp}{s i:Nat}{xs:List V}(g:GrowC p D H s i xs H2)(hDn:H D=none)(npD:p≠D)(b:But p H2 H3)(hp:PurseAt H3 p)(ht:H3 t=some (.tup (vN (pr (qrs s i))))) :
  H3 D=some (.lst xs)/\GrowC p D H s (i+1) (xs++[.ref t]) (upd H3 D (.lst (xs++[.ref t]))):=by
 have k:=g.kept npD b hp;obtain⟨b2,p2,a2,l2,_⟩:=k;obtain⟨_,_,_,l1,cs,S,rfl,hl,hs,hr⟩:=g;have kS:∀(j:Nat) c b,cs[j]?=some c->(S.map pr)[j]?=some b->H3 c=some (.tup (vN b)):=λj c r e1 e2=>by
  have:=hr j c r e1 e2;refine b _ _ this λz=>?_;obtain⟨x,y,e3,_⟩:=(show PurseAt H2 p by assumption);rw[z,e3] at this;cases this
 refine⟨a2,λc o e n=>?_,?_,qa1,by rw[Zi];show (cs.map V.ref).length+1<=_;lia,cs++[t],S++[qrs s i],q93 cs t,by rw[Zi,Zi,hl];rfl,?_,?_⟩
 ·rw[qa7 (qa4 e hDn)];exact b2 c o e n
 ·obtain⟨x,y,e,rr⟩:=hp;exact⟨x,y,by rw[qa7 npD];exact e,rr⟩
 ·rw[Yb,ZE];exact hs.append (List.Sublist.refl _)
 ·intro j c q e1 e2;have nD:∀{c:Addr}{u:List V},H3 c=some (.tup u)->c≠D:=λ{c u} e z=>by rw[z,a2] at e;cases e
  rw[ZE] at e2;by_cases hj:j<cs.length
  ·rw[Zo hj] at e1;rw[Zo (by rw[Ze];lia)] at e2;have:=kS j c q e1 e2;rw[qa7 (nD this)];exact this
  ·rw[Zk (by lia)] at e1;rw[Zk (by rw[Ze];lia),Ze] at e2;have hj0:j-cs.length=0:=by
    have:=(gS_ e1).1;simp at this;lia
   rw[hj0] at e1;rw[<- hl,hj0] at e2;cases e1;cases e2;rw[qa7 (nD ht)];exact ht
abbrev nLaw:List Str:=["_law_script", "_law_k", "_law_pot_here", "_law_n", "_law_side", "_law_cells", "_law_m", "_law_board_here", "_law_many", "_law_by", "_law_due"]
section
variable{P:Program}{w:World}{K:PySem.W.Frag}{mg:Str->Option Value}{base:Heap}
theorem scLaw:FnScope nLaw ["_law_script"] (qa5 lLaw):=qd4
inductive spLaw_(K:PySem.W.Frag)(vs:List V)(H:Hp)(Q:VK):Prop
 |mk(a:Addr)(ns:List Int)(e0:vs=[.ref a])(e1:SqL K H a (ns.map V.int))(e2:ns.length<=63)(e3:∀H',Q (.bl true) H')
def xc4(K:PySem.W.Frag):Sp:=λvs H Q _=>spLaw_ K vs H Q
theorem xu3{f fP fD fB fA fO fL:Addr}{fd fdP fdD fdB fdA fdO fdL:FuncData}(F:Fun K "law" "law" lLaw f fd)(B:Blt mg)(C:Blt2 mg)
  (hP:mg "_law_pot" = some (.ref fP)) (FP:Fun K "_law_pot" "_law_pot" lPot fP fdP) (bP:Binds K fdP ["_law_script", "_law_k"] [])
  (hD:mg "_law_digit" = some (.ref fD)) (FD:Fun K "_law_digit" "_law_digit" qM6 fD fdD) (bD:Binds K fdD ["_law_pot_here", "_law_many"] [])
  (hB:mg "_law_board" = some (.ref fB)) (FB:Fun K "_law_board" "_law_board" qF7 fB fdB) (bB:Binds K fdB nBd3 []) (GB:FnOk P w K mg base CX0 5 fB fdB nBd3 spBd)
  (hA:mg "balance" = some (.ref fA)) (FA:Fun K "balance" "balance" qs4 fA fdA) (bA:Binds K fdA ["shape", "by"] []) (GA:FnOk P w K mg base CX0 35 fA fdA ["shape", "by"] xt4)
  (hO:mg "_law_of_rows" = some (.ref fO)) (FO:Fun K "_law_of_rows" "_law_of_rows" qA6 fO fdO) (bO:Binds K fdO nOr5 []) (GO:FnOk P w K mg base CX0 3 fO fdO nOr5 spOr)
  (hL:mg "_law_less_a_quarter" = some (.ref fL)) (FL:Fun K "_law_less_a_quarter" "_law_less_a_quarter" qM8 fL fdL) (bL:Binds K fdL ["_law_board_here"] []) :
  FnOk P w K mg base CX0 36 f fd ["_law_script"] (xc4 K):=by
 have GP:FnOk P w K mg base CX0 1 fP fdP ["_law_script", "_law_k"] (xq7 K):=xq8 FP B C;have GD:FnOk P w K mg base CX0 1 fD fdD ["_law_pot_here", "_law_many"] q24:=q96 FD;have GL:FnOk P w K mg base CX0 1 fL fdL ["_law_board_here"] spLq:=xz2 FL;refine F.ok scLaw (λvs H Q E h=>?_) (λcdv A outer s H vs Q E hr h=>?_)
 ·obtain⟨a,ns,rfl,_⟩:=h
  rfl
 ·obtain⟨a,ns,rfl,hSq,j2,q⟩:=h;have j8:Room 1 _:=hr.mono (by decide);have kS:Room 3 _:=hr.mono (by decide);have hr5:Room 5 _:=hr.mono (by decide);refine seqE ⟨_,⟨qh0 Z0 rfl (qi5 (by rfl) B.range (qa0 (qa8 (qC9 rfl) (by rfl) B.max Wm (qa0 qa3 (qa0 (qa8 (qU7 rfl) (by rfl) B.min PyProof.Rows.boot_min (qa0 qa3 (qa0 (qa8 qd3 (by rfl) B.len ZT (qa0 (pv 0) qa2)) qa2))) qa2))) qa2)) (pgN 1 scLaw.nd)
    (StB.go (.cons ⟨psN 2 scLaw.nd (pcN GP j8 hP FP.kp bP (qa0 (pv 0) (qa0 (pv 1) qa2)))⟩
    (.cons ⟨psN 3 scLaw.nd (pcN GD j8 hD FD.kp bD (qa0 (pv 2) (qa0 qa3 qa2)))⟩
    (.cons ⟨psN 4 scLaw.nd (qa6 qK8 qa3 (pv 3))⟩
    (.cons ⟨q58 (i0:=5) nLaw (qa5 lLaw) rfl rfl rfl scLaw.nd rfl rfl (qi5 (by rfl) B.range (qa0 (qa6 qd6 (pv 4) (pv 4)) qa2))
     (λcl C fp s₀ H₀=>qb8 qP7 (pcN GD j8 hD FD.kp bD (qa0 (pv 3) (qa0 qa3 qa2))) qa3 (qb6 _))
     (λcl C fp s₀ H₀=>PEb.go ⟨qc1 (qa0 (qa6 qf8 (pv 0) (pv 5)) (qa0 (qa6 qr2 (pv 0) (pv 5)) qa2))⟩)⟩
    (.cons ⟨psN 6 scLaw.nd (qa6 qb5 (pv 3) (PEb.go ⟨pcN GD j8 hD FD.kp bD (qa0 (pv 2) (qa0 (qa6 qc9 qa3 (pv 3)) qa2))⟩))⟩
    (.cons ⟨psN 7 scLaw.nd (pcN GB hr5 hB FB.kp bB (qa0 (pv 3) (qa0 (pv 6) (qa0 (pv 5) qa2))))⟩
    (.cons ⟨psN 8 scLaw.nd (qa6 qK8 qa3 (qa6 qc9 (pv 6) (pv 3)))⟩
    (.one ⟨qh0 Z0 rfl (qo9 (qk8 (qa0 qq7 (qa0 qq7 qa2)))) (pgN 9 scLaw.nd)
     (StB.go (.cons ⟨qe5 (qb8 q65 (PEb.go ⟨pcN GA hr hA FA.kp bA (qa0 (pv 7) (qa0 (pv 9) qa2))⟩) (PEb.go ⟨pcN GO kS hO FO.kp bO (Ars2.go (.cons ⟨pv 9⟩ (.cons ⟨pv 3⟩ (.cons ⟨pv 5⟩ (.cons ⟨pv 8⟩ (.cons ⟨pv 8⟩ .nil rfl) rfl) rfl) rfl) rfl))⟩) (qb6 _)) qi4 qb7⟩
     (.one ⟨qe5 (qb8 xf7 (pv 6) (pv 3) (qb6 _))
      (StB.go (.cons ⟨psN 10 scLaw.nd (PEb.go ⟨qa6 qb5 (PEb.go ⟨pcN GO kS hO FO.kp bO (Ars2.go (.cons ⟨pv 9⟩ (.cons ⟨pv 3⟩ (.cons ⟨pv 5⟩ (.cons ⟨qa6 qf8 (pv 8) qa3⟩ (.cons ⟨pv 8⟩ .nil rfl) rfl) rfl) rfl) rfl))⟩) (PEb.go ⟨pcN GO kS hO FO.kp bO (Ars2.go (.cons ⟨pv 9⟩ (.cons ⟨pv 3⟩ (.cons ⟨pv 5⟩ (.cons ⟨pv 8⟩ (.cons ⟨qa6 qf8 (pv 8) qa3⟩ .nil rfl) rfl) rfl) rfl) rfl))⟩)⟩)⟩
      (.cons ⟨psN 10 scLaw.nd (PEb.go ⟨qa6 qc9 (pv 10) (PEb.go ⟨pcN GO kS hO FO.kp bO (Ars2.go (.cons ⟨pv 9⟩ (.cons ⟨pv 3⟩ (.cons ⟨pv 5⟩ (.cons ⟨qa6 qf8 (pv 8) qa3⟩ (.cons ⟨qa6 qf8 (pv 8) qa3⟩ .nil rfl) rfl) rfl) rfl) rfl))⟩)⟩)⟩
      (.cons ⟨qB3 (qe5 (PW.pt (xn4 (qb8 qP7 (pv 9) qq7 (qb6 _)) (xf5 (qb8 (qT1 hr) (PEb.go ⟨qc1 (qa0 (qa6 qc9 (pv 4) qa3) (qa0 (qa6 qc9 (pv 4) qa3) qa2))⟩) (pv 5) (by first|exact qb6 _|rfl|decide|with_unfolding_all rfl)))))
       (qa9 (psN 10 scLaw.nd (PEb.go ⟨qa6 qc9 (pv 10) (PEb.go ⟨qc3 qh1 (by rfl) B.int Yg (qa0 (PEb.go ⟨qr0 (qf9 (q59 hr) (PEb.go ⟨qc1 (qa0 (qa6 qc9 (pv 4) qa3) (qa0 qa3 qa2))⟩) (pv 5) (by first|exact qb6 _|rfl|decide|with_unfolding_all rfl)) (qq9 (qf9 (q59 hr) (PEb.go ⟨qc1 (qa0 qa3 (qa0 (qa6 qc9 (pv 4) qa3) qa2))⟩) (pv 5) (by first|exact qb6 _|rfl|decide|with_unfolding_all rfl)))⟩) qa2)⟩)⟩))) qb7)⟩
      (.one ⟨qe5 (qb8 q65 (PEb.go ⟨pcN GA hr hA FA.kp bA (qa0 (PEb.go ⟨pcN GL j8 hL FL.kp bL (qa0 (pv 7) qa2)⟩) (qa0 (pv 9) qa2))⟩) (pv 10) (qb6 _)) qi4 qb7⟩))))) qb7⟩)))⟩)))))))))⟩,?_⟩
  refine qg2 ⟨_,⟨qb1 qk6⟩,?_⟩;refine⟨_,rfl,a,_,rfl,.inl hSq,_,_,rfl,_,_,rfl,_,rfl,?_,?_,qm1 (λi σ H2=>(i:Int)<=3/\Same H H2/\∃v1 v2 v3 v4 v5 v6 v7 v8 v9 v10,σ=[some (.ref a),v1,v2,v3,v4,v5,v6,v7,v8,v9,v10]) ⟨by decide,Same.refl _,none,none,none,none,none,none,none,none,none,none,rfl⟩ ?_ ?_⟩
  ·split<;>(try split)<;>lia
  ·split<;>(try split)<;>lia
  ·rintro i σ H2 hi ⟨i1,s2,v1,v2,v3,v4,v5,v6,v7,v8,v9,v10,rfl⟩;have hi':(i:Int)<3:=by
    revert hi;split<;>(try split)<;>lia
   refine⟨_,rfl,_,rfl,a,_,ns,rfl,s2.seq hSq,j2,by lia,by lia,λH3 p s3 hpn hp3=>?_⟩;have hpH:H p=none:=by
    cases e:H p with
    |none=>rfl
    |some o=>rw[s2 _ _ e] at hpn;cases hpn
   refine⟨_,rfl,p,3,rfl,hp3,by decide,by decide,λn H4 hn0 b4 hp4=>?_⟩;have hn:n<=2:=by lia
   have S4:Same H H4:=λx o e=>b4 _ _ (s3 _ _ (s2 _ _ e)) (qa4 e hpH);refine⟨_,rfl,_,_,rfl,rfl,⟨by lia,by lia,by decide⟩,?_⟩;rw[qB2];have v0:=qc0 n;have jQ:2^n<=4:=by
    match n,hn with
    |0,_|1,_|2,_=>decide
   obtain⟨s,hs⟩:∃s,2^n=s:=⟨_,rfl⟩;rw[hs] at v0 jQ ⊢;have etn:((s:Int)*(s:Int)).toNat=s*s:=by rw[<- XY,YG]
   have hss:s*s<=4*4:=Wj jQ jQ;have hsi:(s:Int)*(s:Int)=((s*s:Nat):Int):=by rw[XY]
   refine⟨_,rfl,_,rfl,_,_,rfl,rfl,.inl ⟨by lia,by lia⟩,_,rfl,by rw[hsi];lia,by rw[hsi];lia,λD hDn=>?_⟩;have npD:p≠D:=by obtain⟨a,b,e,_⟩:=hp4;exact qa4 e hDn
   refine q23 (GrowC p D H4 s) (by rw[etn];exact qi0 (by lia)) (GrowC.start hp4 hDn) (λi xs H2 g=>⟨g.at_,g.len⟩) ?_ ?_
   ·intro i xs H2 hi g os ho Q1 Q2 q1 q2;rw[etn] at hi;obtain⟨o1,rfl⟩:=L2.os1 ho;refine⟨_,rfl,p,2,rfl,g.pot,by decide,by decide,λd H3 hd b3 hp3=>⟨rfl,_,rfl,?_⟩⟩;refine ite2 (λ_=>?_) (λ_=>q1 H3 (g.kept npD b3 hp3));refine⟨_,rfl,_,rfl,_,_,rfl,rfl,⟨by lia,by lia⟩,_,rfl,_,rfl,_,_,rfl,rfl,by lia,(by show 2<=sizeLine;decide),λt ht=>?_⟩;have e4:HO.tup [V.int ((0+(i:Int))/(s:Nat)),V.int ((0+(i:Int))%(s:Nat))]=HO.tup (vN (pr (qrs s i))):=by
     rw[Int.zero_add];show _=HO.tup [V.int ((i/s:Nat):Int),V.int ((i%s:Nat):Int)];rw[Int.natCast_ediv,Int.natCast_emod]
    show Q2 (.ref t) (upd H3 t (HO.tup [V.int ((0+(i:Int))/(s:Nat)),V.int ((0+(i:Int))%(s:Nat))]));rw[e4];have m:=g.more (t:=t) hDn npD (b3.trans (But.of (qb0 ht))) (hp3.same (qb0 ht)) qa1;exact q2 _ _ m.1 m.2
   ·intro xs H5 g;obtain⟨b5,hp5,hD5,l5,cs,S,rfl,jS,hsub,hrw⟩:=g;rw[etn] at hsub l5;have hR5:RowsL H5 D (S.map pr):=⟨cs,hD5,by rw[Ze,jS],hrw⟩;have nd:S.Nodup:=ZU.mpr (List.Pairwise.sublist hsub (ZU.mp (xu2 v0 (s*s))));have hS:∀x∈S,x.1<s/\x.2<s:=λx hx=>by
     obtain⟨j,hj,rfl⟩:=ZF.mp (hsub.subset hx);exact⟨(Xr v0).mpr (ZW.mp hj),Y6 _ v0⟩
    have hl:S.length<=16:=by rw[Ze,jS] at l5;lia
    have S5:Same H H5:=λx o e=>b5 _ _ (S4 _ _ e) (qa4 e hpH);have e13:V.int ((13:Int)-(n:Nat))=.int ((13-n:Nat):Int):=by congr 1;lia
    refine⟨_,rfl,_,rfl,_,rfl,_,_,rfl,rfl,p,13-n,by rw[e13];rfl,hp5,by lia,by lia,λk H6 hk b6 hp6=>⟨_,_,rfl,rfl,?_⟩⟩;rw[show V.int ((n:Int)+(k:Int))=.int ((n+k:Nat):Int) from rfl];have S6:Same H H6:=λx o e=>b6 _ _ (S5 _ _ e) (qa4 e hpH);have hR6:RowsL H6 D (S.map pr):=by
     obtain⟨x,y,ex,_⟩:=hp5;exact hR5.but b6 (Xc npD) ex (λu z=>by cases z)
    refine⟨_,rfl,_,rfl,_,rfl,D,n,k,S,rfl,hR6,⟨hn,by lia⟩,hl,λH7 t s7 ta=>?_⟩;have S7:=S6.trans s7;have hR7:=hR6.same s7;refine⟨_,rfl,_,rfl,_,_,rfl,rfl,_,_,rfl,rfl,⟨by lia,by lia,by decide⟩,?_⟩;have eN:V.int (1*2^(((n+k:Nat):Int)-(n:Nat)).toNat)=.int ((2^k:Nat):Int):=by rw[show ((n+k:Nat):Int)-(n:Nat)=(k:Nat) by lia,qB2]
    rw[eN];have hk12:k<=12:=by lia
    have hN:2^k<=4096:=ZH (XB (by decide) hk12) (by decide);have vP:=qP0 hn S k;have dB:=qj7 (qP3 n S) k;have cB:Canon (n+k) (Tr.name (bdL n S k) (brd (sqT n S) k)) (Tr.rowsOf (bdL n S k)):=qy3 (by lia) (qq5 n S k) dB;have tB:T (Tr.rowsOf (bdL n S k)) (Tr.name (bdL n S k) (brd (sqT n S) k))=brd (sqT n S) k:=qn2 (qO9 n S k).1 _ (qO9 n S k).2;have lB:(Tr.rowsOf (bdL n S k)).length<=900:=by rw[Tr.rowsOf_len];lia
    have hSn:∀x∈S,x.1<2^n/\x.2<2^n:=by rw[hs];exact hS
    refine⟨(by show 2<=sizeLine;decide),λl hl'=>⟨l,rfl,⟨_,SqL.of qa1⟩,qz0 (K:=K) (a:=l) (xs:=[.str "sides",.str "corners"]) (λj σ H8=>Same (upd H7 l (.lst [.str "sides",.str "corners"])) H8/\∃v9 v10,σ=[some (.ref a),some (.int (0+(i:Int))),some (.ref p),some (.int (n:Nat)),some (.int (s:Nat)),some (.ref D),some (.int ((n+k:Nat):Int)),some (.ref t),some (.int ((2^k:Nat):Int)),v9,v10])
     ⟨Same.refl _,v9,v10,rfl⟩ (λj σ H8 _ h=>SqL.of (h.1 _ _ qa1)) ?_ ?_⟩⟩
    ·rintro j x σ H8 hj ⟨s8,v9,v10,rfl⟩;obtain⟨sd,rfl⟩:∃sd,x=.str (wayS sd):=by
      match j,hj with
      |0,hj=>cases hj;exact⟨true,rfl⟩
      |1,hj=>cases hj;exact⟨false,rfl⟩
      |j+2,hj=>cases hj
     have sA:Same H7 H8:=(qb0 hl').trans s8;refine⟨_,rfl,_,rfl,t,sd,n+k,_,_,rfl,⟨ta.mono sA.tups,cB,lB⟩,λH9 s9=>?_⟩;refine⟨_,rfl,_,rfl,_,rfl,_,rfl,_,rfl,sd,D,n,2^k,2^k,S,rfl,hR7.same (sA.trans s9),⟨by lia,by lia,by lia⟩,hl,λH10 s10=>⟨rfl,_,rfl,?_⟩⟩;rw[tB,show balW sd (brd (sqT n S) k)=_ from xm7 (sd:=sd) hSn k,Zq rfl];refine iteF ?_;have sB:=sA.trans (s9.trans s10);refine⟨_,rfl,_,rfl,_,_,rfl,rfl,_,rfl,?_⟩;cases k with
     |zero=>
      rw[Zp (by lia)];exact iteF ⟨s8.trans (s9.trans s10),_,_,rfl⟩
     |succ k=>
      rw[Zq (by lia)];refine iteT ?_;have ehalf:V.int (((2^(k+1):Nat):Int)/2)=.int ((2^k:Nat):Int):=by
       rw[qe7];generalize 2^k=u;congr 1;lia
      have hNk:2^k<=4096:=ZH (XB (n:=2) (by decide) (show k<=12 by lia)) (by decide);have three:=qT0 (sd:=sd) hSn k;rw[hs] at three;have jD:∀z:Int,CDiv z 2:=λz=>⟨by decide,by decide⟩;refine⟨_,rfl,_,rfl,_,rfl,_,rfl,_,_,rfl,rfl,jD _,_,rfl,sd,D,n,2^k,2^(k+1),S,by rw[ehalf];rfl,hR7.same sB,⟨by lia,by lia,by lia⟩,hl,λH11 s11=>?_⟩;refine⟨_,rfl,_,rfl,_,rfl,_,rfl,_,rfl,_,_,rfl,rfl,jD _,sd,D,n,2^(k+1),2^k,S,by rw[ehalf];rfl,hR7.same (sB.trans s11),⟨by lia,by lia,by lia⟩,hl,λH12 s12=>⟨_,_,rfl,rfl,?_⟩⟩;refine⟨_,rfl,_,rfl,_,rfl,_,rfl,_,rfl,_,_,rfl,rfl,jD _,_,rfl,_,_,rfl,rfl,jD _,sd,D,n,2^k,2^k,S,by rw[ehalf];rfl,hR7.same (sB.trans (s11.trans s12)),⟨by lia,by lia,by lia⟩,hl,λH13 s13=>⟨_,_,rfl,rfl,?_⟩⟩;rw[hs];have sC:=sB.trans (s11.trans (s12.trans s13));have hR13:=hR7.same sC;generalize ofRows (λd r=>byW sd (tm s S r (d*r))) ((2^k:Nat):Int) ((2^(k+1):Nat):Int)=o1 at three ⊢;generalize ofRows (λd r=>byW sd (tm s S r (d*r))) ((2^(k+1):Nat):Int) ((2^k:Nat):Int)=o2 at three ⊢;generalize ofRows (λd r=>byW sd (tm s S r (d*r))) ((2^k:Nat):Int) ((2^k:Nat):Int)=o3 at three ⊢;refine⟨λσ H=>Same H13 H/\σ=[some (.ref a),some (.int (0+(i:Int))),some (.ref p),some (.int (n:Nat)),some (.int (s:Nat)),some (.ref D),some (.int ((n+(k+1):Nat):Int)),some (.ref t),some (.int ((2^(k+1):Nat):Int)),some (.str (wayS sd)),some (.int (o1+o2-o3-(if sd then 0 else bi (!decide ((s-1,s-1)∈S)&&(decide ((s-1,0)∈S)&&decide ((0,s-1)∈S))))))],?_,?_⟩
      ·refine⟨_,rfl,rfl,_,rfl,?_⟩;cases sd with
       |true=>
        rw[show decide (V.str (wayS true)=V.str "corners")=false by decide +kernel];exact iteF (iteF ⟨Same.refl _,by rw[Zm rfl,Int.sub_zero];rfl⟩)
       |false=>
        rw[show decide (V.str (wayS false)=V.str "corners")=true by decide +kernel,Zh (show ¬(false:Bool)=true by decide)];refine iteT ?_;have es1:V.int ((s:Int)-1)=.int ((s-1:Nat):Int):=by congr 1;lia
        have inn:∀{Hx:Hp},Same H13 Hx->∃bs:List Addr,Hx D=some (.lst (bs.map V.ref))/\DatasAt Hx (bs.map V.ref) ((S.map pr).map λr=>dT (r.map λx:Nat=>(x:Int))):=λ{Hx} sx=>by
         obtain⟨bs,e1,e2,e3⟩:=hR13.same sx;exact⟨bs,e1,qp6 e2 e3⟩
        refine⟨_,rfl,_,_,rfl,rfl,_,rfl,_,_,rfl,rfl,(by show 2<=sizeLine;decide),λu hu=>?_⟩;rw[es1];have t1:Same H13 (upd H13 u (.tup [.int ((s-1:Nat):Int),.int ((s-1:Nat):Int)])):=qb0 hu;have c1:=qx1 (H:=upd H13 u (.tup [.int ((s-1:Nat):Int),.int ((s-1:Nat):Int)])) (u:=u) qa1;generalize upd H13 u (.tup [.int ((s-1:Nat):Int),.int ((s-1:Nat):Int)])=H14 at t1 c1 ⊢;obtain⟨bs1,g1,g2⟩:=inn t1;refine⟨_,rfl,D,_,_,_,rfl,g1,g2,c1,qx9 _,qh8 _,qq6 _,_,rfl,?_⟩;rw[qx0];by_cases m1:(s-1,s-1)∈S
        ·rw[Zq m1];refine iteF ⟨t1,?_⟩;rw[show bi (!true&&(decide ((s-1,0)∈S)&&decide ((0,s-1)∈S)))=0 from rfl,Int.sub_zero]
         rfl
        ·rw[Zp m1];refine iteT ?_;refine⟨_,rfl,_,rfl,_,_,rfl,rfl,(by show 2<=sizeLine;decide),λu2 jP=>?_⟩;rw[es1];have t2:=t1.trans (qb0 (o:=.tup [.int ((s-1:Nat):Int),.int 0]) jP);have c2:=qx1 (H:=upd H14 u2 (.tup [.int ((s-1:Nat):Int),.int 0])) (u:=u2) (i:=s-1) (j:=0) qa1;generalize upd H14 u2 (.tup [.int ((s-1:Nat):Int),.int 0])=H15 at t2 c2 ⊢;obtain⟨bs2,g3,g4⟩:=inn t2;refine⟨_,rfl,D,_,_,_,rfl,g3,g4,c2,qx9 _,qh8 _,qq6 _,_,rfl,?_⟩;rw[qx0];by_cases m2:(s-1,0)∈S
         ·rw[Zq m2];refine iteT ?_;refine⟨_,rfl,_,_,rfl,rfl,(by show 2<=sizeLine;decide),λu3 hu3=>?_⟩;rw[es1];have t3:=t2.trans (qb0 (o:=.tup [.int 0,.int ((s-1:Nat):Int)]) hu3);have c3:=qx1 (H:=upd H15 u3 (.tup [.int 0,.int ((s-1:Nat):Int)])) (u:=u3) (i:=0) (j:=s-1) qa1;generalize upd H15 u3 (.tup [.int 0,.int ((s-1:Nat):Int)])=H16 at t3 c3 ⊢;obtain⟨bs3,g5,g6⟩:=inn t3;refine⟨_,rfl,D,_,_,_,rfl,g5,g6,c3,qx9 _,qh8 _,qq6 _,.inr ⟨_,rfl,_,_,rfl,rfl,t3,?_⟩⟩;rw[qx0]
          rfl
         ·rw[Zp m2];refine iteF (.inr ⟨_,rfl,_,_,rfl,rfl,t2,?_⟩)
          rfl
      ·rintro σ H14 ⟨s14,rfl⟩;have sD:=sC.trans s14;have lA:=qP0 hn S k;have lA3:=q60 (brd (sqT n S) k);refine⟨_,rfl,t,n+(k+1),brd (sqT n S) k,rfl,ta.mono sD.tups,by show (bdL n S k).length<=1000;lia,λH15 t' s15 ta15=>?_⟩;have dA:=qj7 (qP3 n S) k;have rA:=qq5 n S k;obtain⟨od3,in3⟩:=Tr.post_ord (mk (brd (sqT n S) k) (brd (sqT n S) k) (brd (sqT n S) k) .z) [] Tr.ord_nil;refine⟨_,rfl,t',sd,n+(k+1),_,_,rfl,⟨ta15,qy3 (by lia) (q25 rA rA rA trivial) (qN6 (k:=n+k) dA dA dA (Zx _)),by rw[Tr.rowsOf_len];have:(bdL n S k).length=(Tr.post (brd (sqT n S) k) []).length:=rfl;lia⟩,λH16 s16=>⟨_,rfl,rfl,_,rfl,?_⟩⟩;rw[qn2 od3 _ in3,show balW sd (mk (brd (sqT n S) k) (brd (sqT n S) k) (brd (sqT n S) k) .z)=_ from three,Zq rfl];exact iteF ⟨s8.trans (s9.trans (s10.trans (s11.trans (s12.trans (s13.trans (s14.trans (s15.trans s16))))))),_,_,rfl⟩
    ·rintro σ H8 ⟨s8,v9,v10,rfl⟩;exact⟨by lia,S7.trans ((qb0 hl').trans s8),_,_,_,_,_,_,_,_,_,_,rfl⟩
  ·rintro σ H2 _;exact q _
end
def qe1(K:PySem.W.Frag)(x:Str)(st:Stmt):Prop:=∃(f:Addr)(fd:FuncData),PySem.W.nsIn K mainGlobals x=some (some (.ref f))/\Fun K x x st f fd
theorem d_mk{K:PySem.W.Frag}{x:Str}{st:Stmt}{f:Addr}{od an:Option Addr}{sl:Array (Option Value)}{oc kV dc pm cd ct:Value}(a:PySem.W.nsIn K mainGlobals x=some (some (.ref f)))
  (l:K.lookup f=some ⟨oc,od,.func (PySem.W.fnOf x x (qf7 st) (qf0 st) (qa5 st) .none kV dc pm an cd ct),sl⟩) (c:PySem.W.codeIn K cd x=true) (k:PySem.W.keepIn K (.ref f)=true):qe1 K x st:=⟨f,_,a,qW1 l c k⟩
def qc4(K:PySem.W.Frag)(x:Str):Prop:=PySem.W.nsIn K mainGlobals x=some none
def qx2(K:PySem.W.Frag)(C:Addr)(m qn:Str)(st:Stmt):Prop:=∃(f:Addr)(fd:FuncData),PySem.W.findIn K (.ref C) m=some (some (.ref f))/\PySem.W.isFn K (.ref f)=true/\Fun K m qn st f fd
theorem m_mk{K:PySem.W.Frag}{C:Addr}{m qn:Str}{st:Stmt}{f:Addr}{od an:Option Addr}{sl:Array (Option Value)}{oc kV dc pm cd ct:Value}(a:PySem.W.findIn K (.ref C) m=some (some (.ref f)))(i:PySem.W.isFn K (.ref f)=true)
  (l:K.lookup f=some ⟨oc,od,.func (PySem.W.fnOf m qn (qf7 st) (qf0 st) (qa5 st) .none kV dc pm an cd ct),sl⟩) (c:PySem.W.codeIn K cd qn=true) (k:PySem.W.keepIn K (.ref f)=true):qx2 K C m qn st:=⟨f,_,a,i,qW1 l c k⟩
theorem us1{α:Type}{P:List α->Prop}(h:∀a:α,P [a]):∀us:List α,us.length=1->P us
 |[a],_=>h a
theorem us2{α:Type}{P:List α->Prop}(h:∀a b:α,P [a,b]):∀us:List α,us.length=2->P us
 |[a,b],_=>h a b
theorem us3{α:Type}{P:List α->Prop}(h:∀a b c:α,P [a,b,c]):∀us:List α,us.length=3->P us
 |[a,b,c],_=>h a b c
theorem us4{α:Type}{P:List α->Prop}(h:∀a b c d:α,P [a,b,c,d]):∀us:List α,us.length=4->P us
 |[a,b,c,d],_=>h a b c d
theorem us5{α:Type}{P:List α->Prop}(h:∀a b c d e:α,P [a,b,c,d,e]):∀us:List α,us.length=5->P us
 |[a,b,c,d,e],_=>h a b c d e
theorem xu4{l:PySem.W.OpenLaw}{w:World}{K:PySem.W.Frag}{h:Heap}{mg:Str->Option Value}{fa fL C0:Addr}(X:K.In h)(G:h.Ns mainGlobals mg)(hfa:mg "law" = some (.ref fa)){odL anL:Option Addr}{slL:Array (Option Value)}{ocL kVL dcL pmL cdL ctL:Value}{t0 t1 t2 t3 t4 t5:Tok}
  (aL:PySem.W.nsIn K mainGlobals "law" = some (some (.ref fL))) (lL:K.lookup fL=some ⟨ocL,odL,.func (PySem.W.fnOf "law" "law" (qf7 lLaw) (qf0 lLaw) (qa5 lLaw) .none kVL dcL pmL anL cdL ctL),slL⟩) (cL:PySem.W.codeIn K cdL "law" = true) (kL:PySem.W.keepIn K (.ref fL)=true)
  (g0:PySem.W.nsIn K mainGlobals "FIRST" = some (some (.int 2 t0))) (g1:PySem.W.nsIn K mainGlobals "FULL" = some (some (.int 1 t1))) (g2:PySem.W.nsIn K mainGlobals "GREATEST_SIZE" = some (some (.int 12 t2))) (g3:PySem.W.nsIn K mainGlobals "EMPTY" = some (some (.int 0 t3))) (g4:PySem.W.nsIn K mainGlobals "SIDES" = some (some (.str "sides" t4))) (g5:PySem.W.nsIn K mainGlobals "CORNERS" = some (some (.str "corners" t5)))
  (d0:qe1 K "is_whole" qF3) (d1:qe1 K "is_plain" qM3) (d2:qe1 K "quarters_of" qF4) (d3:qe1 K "depths_of" qZ8) (d4:qe1 K "end_rows" sEnd) (d5:qe1 K "places_as_ended" qA4) (d6:qe1 K "is_size" q79) (d7:qe1 K "is_number" qv0) (d8:qe1 K "is_row" sRow) (d9:qe1 K "are_rows" qZ9) (d10:qe1 K "is_telling" qs2) (d11:qe1 K "is_shape" qF5) (d12:qe1 K "want_shape" qM4) (d13:qe1 K "exchanged" q00) (d14:qe1 K "exchanged_rows" qF6) (d15:qe1 K "want_way" qs3) (d16:qe1 K "corners_of" qn0) (d17:qe1 K "turned_about" qi9) (d18:qe1 K "balance" qs4) (d19:qe1 K "_law_pot" lPot) (d20:qe1 K "_law_digit" qM6) (d21:qe1 K "_law_meets" qy1) (d22:qe1 K "_law_has" lHas) (d23:qe1 K "_law_number" qj0) (d24:qe1 K "_law_by_sides" qs5) (d25:qe1 K "_law_by_corners" qk2) (d26:qe1 K "_law_told" q81) (d27:qe1 K "_law_times" qM7) (d28:qe1 K "_law_of_rows" qA6) (d29:qe1 K "_law_board" qF7) (d30:qe1 K "_law_less_a_quarter" qM8)
  (z0:qc4 K "isinstance") (z1:qc4 K "int") (z2:qc4 K "bool") (z3:qc4 K "tuple") (z4:qc4 K "list") (z5:qc4 K "set") (z6:qc4 K "len") (z7:qc4 K "all") (z8:qc4 K "any") (z9:qc4 K "enumerate") (z10:qc4 K "range") (z11:qc4 K "max") (z12:qc4 K "min") (z13:qc4 K "abs") (z14:qc4 K "repr") (z15:qc4 K "str") (z16:qc4 K "sum")
  (ac0:PySem.W.nsIn K mainGlobals "Account" = some (some (.ref C0))) (cl0:Cls K C0) (mk0:PySem.W.makesIn K C0=true) (kc0:PySem.W.keepIn K (.ref C0)=true) (na0_0:NoAttr K C0 "rows") (na0_1:NoAttr K C0 "corners") (na0_2:NoAttr K C0 "known") (md0_0:qx2 K C0 "__init__" "Account.__init__" qJ4) (md0_1:qx2 K C0 "in_the_middle" "Account.in_the_middle" qv1) (md0_2:qx2 K C0 "across" "Account.across" qM5) (md0_3:qx2 K C0 "over_both" "Account.over_both" qA5) (md0_4:qx2 K C0 "together" "Account.together" q01) (md0_5:qx2 K C0 "of_number" "Account.of_number" q80) :
  ∃fd:FuncData,(∀(s:Shared)(v:Value),BindsTo s fd ⟨[v],[]⟩ [("_law_script",v)])/\∀base:Heap,K.In base->base.Ns mainGlobals mg->FnOk l.prog w K mg base CX0 36 fa fd ["_law_script"] (xc4 K):=by
 have e:=hfa.symm.trans (Zw X G aL);cases e;have nn:∀{x:Str},qc4 K x->mg x=none:=λz=>PySem.W.mg_none_of X G z;have B:Blt mg:=⟨nn z0,nn z1,nn z2,nn z3,nn z4,nn z5,nn z6,nn z7,nn z8,nn z9,nn z10,nn z11,nn z12⟩;have C:Blt2 mg:=⟨nn z13,nn z14,nn z15⟩;have T:Cst mg:=⟨⟨t0,Zw X G g0⟩,⟨t1,Zw X G g1⟩,⟨t2,Zw X G g2⟩⟩;have Wy:Ways mg:=⟨⟨t4,Zw X G g4⟩,⟨t5,Zw X G g5⟩⟩;have FL:=qW1 (st:=lLaw) lL cL kL;obtain⟨f0,fd0,a0,F0⟩:=d0;have h0:=Zw X G a0;have b0:=F0.binds (ps:=["thing"]) λ_ _ _ _ _ _=>us1 λ_=>rfl;obtain⟨f1,fd1,a1,F1⟩:=d1;have h1:=Zw X G a1;have b1:=F1.binds (ps:=["row"]) λ_ _ _ _ _ _=>us1 λ_=>rfl;obtain⟨f2,fd2,a2,F2⟩:=d2;have h2:=Zw X G a2;have b2:=F2.binds (ps:=["rows", "number"]) λ_ _ _ _ _ _=>us2 λ_ _=>rfl;obtain⟨f3,fd3,a3,F3⟩:=d3;have h3:=Zw X G a3;have b3:=F3.binds (ps:=["rows"]) λ_ _ _ _ _ _=>us1 λ_=>rfl;obtain⟨f4,fd4,a4,F4⟩:=d4;have h4:=Zw X G a4;have b4:=F4.binds (ps:=["rows", "number", "ended"]) λ_ _ _ _ _ _=>us3 λ_ _ _=>rfl;obtain⟨f5,fd5,a5,F5⟩:=d5;have h5:=Zw X G a5;have b5:=F5.binds (ps:=["rows", "top"]) λ_ _ _ _ _ _=>us2 λ_ _=>rfl;obtain⟨f6,fd6,a6,F6⟩:=d6;have h6:=Zw X G a6;have b6:=F6.binds (ps:=["thing"]) λ_ _ _ _ _ _=>us1 λ_=>rfl;obtain⟨f7,fd7,a7,F7⟩:=d7;have h7:=Zw X G a7;have b7:=F7.binds (ps:=["thing", "many"]) λ_ _ _ _ _ _=>us2 λ_ _=>rfl;obtain⟨f8,fd8,a8,F8⟩:=d8;have h8:=Zw X G a8;have b8:=F8.binds (ps:=["thing", "before"]) λ_ _ _ _ _ _=>us2 λ_ _=>rfl;obtain⟨f9,fd9,a9,F9⟩:=d9;have h9:=Zw X G a9;have b9:=F9.binds (ps:=["thing"]) λ_ _ _ _ _ _=>us1 λ_=>rfl;obtain⟨f10,fd10,a10,F10⟩:=d10;have h10:=Zw X G a10;have b10:=F10.binds (ps:=["thing"]) λ_ _ _ _ _ _=>us1 λ_=>rfl;obtain⟨f11,fd11,a11,F11⟩:=d11;have h11:=Zw X G a11;have b11:=F11.binds (ps:=["thing"]) λ_ _ _ _ _ _=>us1 λ_=>rfl;obtain⟨f12,fd12,a12,F12⟩:=d12;have h12:=Zw X G a12;have b12:=F12.binds (ps:=["shape"]) λ_ _ _ _ _ _=>us1 λ_=>rfl;obtain⟨f13,fd13,a13,F13⟩:=d13;have h13:=Zw X G a13;have b13:=F13.binds (ps:=["number"]) λ_ _ _ _ _ _=>us1 λ_=>rfl;obtain⟨f14,fd14,a14,F14⟩:=d14;have h14:=Zw X G a14;have b14:=F14.binds (ps:=["rows"]) λ_ _ _ _ _ _=>us1 λ_=>rfl;obtain⟨f15,fd15,a15,F15⟩:=d15;have h15:=Zw X G a15;have b15:=F15.binds (ps:=["by"]) λ_ _ _ _ _ _=>us1 λ_=>rfl;obtain⟨f16,fd16,a16,F16⟩:=d16;have h16:=Zw X G a16;have b16:=F16.binds (ps:=["rows"]) λ_ _ _ _ _ _=>us1 λ_=>rfl;obtain⟨f17,fd17,a17,F17⟩:=d17;have h17:=Zw X G a17;have b17:=F17.binds (ps:=["four"]) λ_ _ _ _ _ _=>us1 λ_=>rfl;obtain⟨f18,fd18,a18,F18⟩:=d18;have h18:=Zw X G a18;have b18:=F18.binds (ps:=["shape", "by"]) λ_ _ _ _ _ _=>us2 λ_ _=>rfl;obtain⟨f19,fd19,a19,F19⟩:=d19;have h19:=Zw X G a19;have b19:=F19.binds (ps:=["_law_script", "_law_k"]) λ_ _ _ _ _ _=>us2 λ_ _=>rfl;obtain⟨f20,fd20,a20,F20⟩:=d20;have h20:=Zw X G a20;have b20:=F20.binds (ps:=["_law_pot_here", "_law_many"]) λ_ _ _ _ _ _=>us2 λ_ _=>rfl;obtain⟨f21,fd21,a21,F21⟩:=d21;have h21:=Zw X G a21;have b21:=F21.binds (ps:=["_law_box", "_law_row", "_law_column", "_law_side"]) λ_ _ _ _ _ _=>us4 λ_ _ _ _=>rfl;obtain⟨f22,fd22,a22,F22⟩:=d22;have h22:=Zw X G a22;have b22:=F22.binds (ps:=["_law_box", "_law_row", "_law_column", "_law_side"]) λ_ _ _ _ _ _=>us4 λ_ _ _ _=>rfl;obtain⟨f23,fd23,a23,F23⟩:=d23;have h23:=Zw X G a23;have b23:=F23.binds (ps:=["_law_rows", "_law_boxes", "_law_row", "_law_column", "_law_side"]) λ_ _ _ _ _ _=>us5 λ_ _ _ _ _=>rfl;obtain⟨f24,fd24,a24,F24⟩:=d24;have h24:=Zw X G a24;have b24:=F24.binds (ps:=["_law_there"]) λ_ _ _ _ _ _=>us1 λ_=>rfl;obtain⟨f25,fd25,a25,F25⟩:=d25;have h25:=Zw X G a25;have b25:=F25.binds (ps:=["_law_there"]) λ_ _ _ _ _ _=>us1 λ_=>rfl;obtain⟨f26,fd26,a26,F26⟩:=d26;have h26:=Zw X G a26;have b26:=F26.binds (ps:=["_law_by", "_law_there"]) λ_ _ _ _ _ _=>us2 λ_ _=>rfl;obtain⟨f27,fd27,a27,F27⟩:=d27;have h27:=Zw X G a27;have b27:=F27.binds (ps:=["_law_n", "_law_cells", "_law_down", "_law_right"]) λ_ _ _ _ _ _=>us4 λ_ _ _ _=>rfl;obtain⟨f28,fd28,a28,F28⟩:=d28;have h28:=Zw X G a28;have b28:=F28.binds (ps:=["_law_by", "_law_n", "_law_cells", "_law_down", "_law_right"]) λ_ _ _ _ _ _=>us5 λ_ _ _ _ _=>rfl;obtain⟨f29,fd29,a29,F29⟩:=d29;have h29:=Zw X G a29;have b29:=F29.binds (ps:=["_law_n", "_law_m", "_law_cells"]) λ_ _ _ _ _ _=>us3 λ_ _ _=>rfl;obtain⟨f30,fd30,a30,F30⟩:=d30;have h30:=Zw X G a30;have b30:=F30.binds (ps:=["_law_board_here"]) λ_ _ _ _ _ _=>us1 λ_=>rfl;obtain⟨mf0_0,mfd0_0,ma0_0,mi0_0,MF0_0⟩:=md0_0;have me0_0:Meth K C0 "__init__" mf0_0:=⟨ma0_0,mi0_0,MF0_0.kp⟩;have mb0_0:=MF0_0.binds (ps:=["self", "rows"]) λ_ _ _ _ _ _=>us2 λ_ _=>rfl;obtain⟨mf0_1,mfd0_1,ma0_1,mi0_1,MF0_1⟩:=md0_1;have me0_1:Meth K C0 "in_the_middle" mf0_1:=⟨ma0_1,mi0_1,MF0_1.kp⟩;have mb0_1:=MF0_1.binds (ps:=["self", "four"]) λ_ _ _ _ _ _=>us2 λ_ _=>rfl;obtain⟨mf0_2,mfd0_2,ma0_2,mi0_2,MF0_2⟩:=md0_2;have me0_2:Meth K C0 "across" mf0_2:=⟨ma0_2,mi0_2,MF0_2.kp⟩;have mb0_2:=MF0_2.binds (ps:=["self", "one", "other", "is_upright"]) λ_ _ _ _ _ _=>us4 λ_ _ _ _=>rfl;obtain⟨mf0_3,mfd0_3,ma0_3,mi0_3,MF0_3⟩:=md0_3;have me0_3:Meth K C0 "over_both" mf0_3:=⟨ma0_3,mi0_3,MF0_3.kp⟩;have mb0_3:=MF0_3.binds (ps:=["self", "four", "is_upright"]) λ_ _ _ _ _ _=>us3 λ_ _ _=>rfl;obtain⟨mf0_4,mfd0_4,ma0_4,mi0_4,MF0_4⟩:=md0_4;have me0_4:Meth K C0 "together" mf0_4:=⟨ma0_4,mi0_4,MF0_4.kp⟩;have mb0_4:=MF0_4.binds (ps:=["self", "four"]) λ_ _ _ _ _ _=>us2 λ_ _=>rfl;obtain⟨mf0_5,mfd0_5,ma0_5,mi0_5,MF0_5⟩:=md0_5;have me0_5:Meth K C0 "of_number" mf0_5:=⟨ma0_5,mi0_5,MF0_5.kp⟩;have mb0_5:=MF0_5.binds (ps:=["self", "top"]) λ_ _ _ _ _ _=>us2 λ_ _=>rfl;have mm0:Mk K C0 mf0_0:=⟨mk0,ma0_0,mi0_0,kc0⟩;refine⟨PySem.W.fnOf "law" "law" (qf7 lLaw) (qf0 lLaw) (qa5 lLaw) .none kVL dcL pmL anL cdL ctL,λs v=>.of_eq rfl,λbase _ _=>?_⟩;have gSize:FnOk l.prog w K mg base CX0 2 _ _ _ _:=xi4 F6 B T h0 F0 b0;have gNum:FnOk l.prog w K mg base CX0 2 _ _ _ _:=q02 F7 B T h0 F0 b0;have gPl:∀d,FnOk l.prog w K mg base CX0 (d+2) _ _ _ (qA8 d):=λd=>q07 F5 B T h4 F4 b4 d;have gRow:FnOk l.prog w K mg base CX0 3 _ _ _ _:=xq5 F8 B h7 F7 b7 gNum;have gRows:FnOk l.prog w K mg base CX0 4 _ _ _ _:=xj0 F9 B h8 F8 b8 gRow;have gTell:FnOk l.prog w K mg base CX0 5 _ _ _ _:=qR5 F10 B h6 F6 b6 gSize h9 F9 b9 gRows h7 F7 b7 gNum h3 F3 b3;have gShape:FnOk l.prog w K mg base CX0 15 _ _ _ _:=q87 F11 B T h10 F10 b10 gTell h1 F1 b1 h5 F5 b5 gPl;have gWant:FnOk l.prog w K mg base CX0 16 _ _ _ _:=q88 F12 h11 F11 b11 gShape;have hem0:∃t,mg "EMPTY" = some (.int 0 t):=⟨t3,Zw X G g3⟩;have kR:mg "str" = none:=nn z15;have hsm:mg "sum" = none:=nn z16;have gExR:FnOk l.prog w K mg base CX0 2 _ _ _ _:=xb4 F14 B T h13 F13 b13;have gWy:FnOk l.prog w K mg base CX0 1 _ _ _ _:=xt3 F15 B kR Wy;have AC:AcC K C0:=⟨cl0,na0_0,na0_1,na0_2⟩;have gAc:=qO0 (P:=l.prog) (w:=w) (base:=base) MF0_2 AC B T hem0 h2 F2 b2 MF0_3 me0_3 mb0_3 me0_1 MF0_1 mb0_1 h17 F17 b17 me0_2 mb0_2 14;have gTg:FnOk l.prog w K mg base CX0 33 _ _ _ _:=xs2 (k:=31) MF0_4 AC B me0_3 mb0_3 gAc.2 me0_1 MF0_1 mb0_1;have gOf:FnOk l.prog w K mg base CX0 34 _ _ _ _:=xx7 (k:=32) MF0_5 AC hsm me0_4 mb0_4 gTg;have gAI:FnOk l.prog w K mg base CX0 2 _ _ _ (spAI l.prog w C0):=xy2 MF0_0 AC B h16 F16 b16;have gBal:FnOk l.prog w K mg base CX0 35 _ _ _ _:=xt5 F18 B T Wy AC (Zw X G ac0) h12 F12 b12 gWant h15 F15 b15 gWy h14 F14 b14 gExR h13 F13 b13 mm0 mb0_0 gAI me0_5 mb0_5 gOf;have gBs:FnOk l.prog w K mg base CX0 1 _ _ _ _:=xy0 F24 B;have gBc:FnOk l.prog w K mg base CX0 1 _ _ _ _:=xy4 F25 B;have gTd:FnOk l.prog w K mg base CX0 2 _ _ _ _:=xy5 F26 h24 F24 b24 gBs h25 F25 b25 gBc;have gOr:FnOk l.prog w K mg base CX0 3 _ _ _ _:=xy8 F28 B h26 F26 b26 gTd h27 F27 b27;have gBd:FnOk l.prog w K mg base CX0 5 _ _ _ _:=xz1 F29 B h23 F23 b23 h21 F21 b21 h22 F22 b22;exact xu3 FL B C h19 F19 b19 h20 F20 b20 h29 F29 b29 gBd h18 F18 b18 gBal h28 F28 b28 gOr h30 F30 b30
theorem walk{l:PySem.W.OpenLaw}{q:Program}{loose:List Str}{XP:(Str->Option Value)->Heap->Prop}{YP:World->Heap->Prop}{d:DefRec}{K:Params->PySem.W.Frag}(hn:l.most=some 63)(hdf:d.params.defaults=[])
  (hY:∀(w:World)(h:Heap),YP w h->(K w.params).In h)
  (F:∀(w:World)(mg:Str->Option Value)(fa:Addr)(h:Heap),(K w.params).In h->h.Ns mainGlobals mg->mg d.name=some (.ref fa) ->
   ∃fd:FuncData,(∀(s:Shared)(u:Value),BindsTo s fd ⟨[u],[]⟩ [("_law_script",u)])/\∀base:Heap,(K w.params).In base->base.Ns mainGlobals mg->FnOk l.prog w (K w.params) mg base CX0 36 fa fd ["_law_script"] (xc4 (K w.params))) :
  PySem.W.WalkO q loose XP YP l.row.toRowW d [] (λf vs=>PySem.call f vs):=
 L2.xg6 (n:=63) (k:=36) (x:= "_law_script") (CX:=λ_=>CX0) (sp:=λw=>xc4 (K w.params)) hn (by decide) hdf ⟨rfl,by decide,by decide,rfl⟩ hY F (λ_ _ a ns hl _ hS=>⟨a,ns,rfl,hS,hl,λ_=>rfl⟩) λ_ _ _ _ _ z=>z
end Pr
open PySem PySem.W PyProof.Rows
set_option maxRecDepth 100000 in
set_option maxHeartbeats 0 in
theorem PySem.Challenge.cw_quarterfold_k67_whole_balance_of_boards_holds : PySem.Challenge.rw_quarterfold_k67_whole_balance_of_boards.Holds := by
 w_on;o_law
 refine holds_open (q:=Hd.q0) (loose:=[]) (Xt:=Hd.X0) (XP:=XL Hd.q0 []) (YP:=Hook.says (kHook Hd.K0 Hd.as0 Hd.as_K)) (N:=Hd.N0) Hd.xu5
  (Hook.of (kHook Hd.K0 Hd.as0 Hd.as_K)) (Hook.keeps (kHook Hd.K0 Hd.as0 Hd.as_K)) (λs e=>xl_of s (XC.mp e).1) XL.keeps
  (by rfl) (by rfl) (by rfl) (λs e=>recFacts_of (XC.mp e).2)
  (by rfl) (by first|assumption|decide +kernel) (by decide +kernel) ⟨rfl,rfl,rfl,rfl,rfl,by decide +kernel⟩ ?hw ?hc
 case hw=>w_witness2
 k_fill
 refine Pr.walk (l:=PySem.Challenge.rw_quarterfold_k67_whole_balance_of_boards) rfl rfl (λw h Y=>PySem.W.kIn_of Y) ?F
 case F=>
  intro w mg fa h KX G hmg;refine' Pr.xu4 KX G hmg ?aL ?lL ?cL ?kL ?gc0 ?gc1 ?gc2 ?gc3 ?gc4 ?gc5 ?d0 ?d1 ?d2 ?d3 ?d4 ?d5 ?d6 ?d7 ?d8 ?d9 ?d10 ?d11 ?d12 ?d13 ?d14 ?d15 ?d16 ?d17 ?d18 ?d19 ?d20 ?d21 ?d22 ?d23 ?d24 ?d25 ?d26 ?d27 ?d28 ?d29 ?d30 ?z0 ?z1 ?z2 ?z3 ?z4 ?z5 ?z6 ?z7 ?z8 ?z9 ?z10 ?z11 ?z12 ?z13 ?z14 ?z15 ?z16 ?ac0 ?cl0 ?mk0 ?kc0 ?na0_0 ?na0_1 ?na0_2 ?md0_0 ?md0_1 ?md0_2 ?md0_3 ?md0_4 ?md0_5
  (case aL=>k_is);(case lL=>k_is);(case cL=>k_is);(case kL=>k_is)
  (case gc0=>k_is)
  (case gc1=>k_is)
  (case gc2=>k_is)
  (case gc3=>k_is)
  (case gc4=>k_is)
  (case gc5=>k_is)
  (case z0=>unfold Pr.qc4;k_is)
  (case z1=>unfold Pr.qc4;k_is)
  (case z2=>unfold Pr.qc4;k_is)
  (case z3=>unfold Pr.qc4;k_is)
  (case z4=>unfold Pr.qc4;k_is)
  (case z5=>unfold Pr.qc4;k_is)
  (case z6=>unfold Pr.qc4;k_is)
  (case z7=>unfold Pr.qc4;k_is)
  (case z8=>unfold Pr.qc4;k_is)
  (case z9=>unfold Pr.qc4;k_is)
  (case z10=>unfold Pr.qc4;k_is)
  (case z11=>unfold Pr.qc4;k_is)
  (case z12=>unfold Pr.qc4;k_is)
  (case z13=>unfold Pr.qc4;k_is)
  (case z14=>unfold Pr.qc4;k_is)
  (case z15=>unfold Pr.qc4;k_is)
  (case z16=>unfold Pr.qc4;k_is)
  (case ac0=>k_is)
  (case cl0=>refine' ⟨?pa,?pb,?pc,?pd⟩;(case pa=>k_is);(case pb=>k_is);(case pc=>k_is);(case pd=>k_is))
  (case mk0=>k_is);(case kc0=>k_is)
  (case na0_0=>unfold L2.NoAttr;k_is)
  (case na0_1=>unfold L2.NoAttr;k_is)
  (case na0_2=>unfold L2.NoAttr;k_is)
  (case md0_0=>refine' Pr.m_mk ?qa ?qi ?ql ?qc ?qk;(case qa=>k_is);(case qi=>k_is);(case ql=>k_is);(case qc=>k_is);(case qk=>k_is))
  (case md0_1=>refine' Pr.m_mk ?qa ?qi ?ql ?qc ?qk;(case qa=>k_is);(case qi=>k_is);(case ql=>k_is);(case qc=>k_is);(case qk=>k_is))
  (case md0_2=>refine' Pr.m_mk ?qa ?qi ?ql ?qc ?qk;(case qa=>k_is);(case qi=>k_is);(case ql=>k_is);(case qc=>k_is);(case qk=>k_is))
  (case md0_3=>refine' Pr.m_mk ?qa ?qi ?ql ?qc ?qk;(case qa=>k_is);(case qi=>k_is);(case ql=>k_is);(case qc=>k_is);(case qk=>k_is))
  (case md0_4=>refine' Pr.m_mk ?qa ?qi ?ql ?qc ?qk;(case qa=>k_is);(case qi=>k_is);(case ql=>k_is);(case qc=>k_is);(case qk=>k_is))
  (case md0_5=>refine' Pr.m_mk ?qa ?qi ?ql ?qc ?qk;(case qa=>k_is);(case qi=>k_is);(case ql=>k_is);(case qc=>k_is);(case qk=>k_is))
  all_goals (refine' Pr.d_mk ?qa ?ql ?qc ?qk;(case qa=>k_is);(case ql=>k_is);(case qc=>k_is);(case qk=>k_is))
